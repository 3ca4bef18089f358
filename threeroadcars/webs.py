"""Webs: roads that meet by threes, told by their names (section 4)."""

from threeroadcars.checks import are_unlike_names, is_name
from threeroadcars.errors import BadNames, BadWeb

FIRST_LINE = "web"
FIRST_WORD = "meet"
MOST_JUNCTIONS = 12


class Web:
    """A web, read from its text."""

    def __init__(self, text):
        junctions = read_junctions(text)
        check_hanging_together(junctions)
        standing = all_words(junctions)
        self.text = text
        self.junctions = junctions
        self.roads = tuple(sorted(set(standing)))
        self.inner = tuple([road for road in self.roads if standing.count(road) == 2])
        self.ends = tuple([road for road in self.roads if standing.count(road) == 1])
        self.rounds = len(self.inner) - len(junctions) + 1

    def __eq__(self, other):
        return isinstance(other, Web) and self.text == other.text

    def __len__(self):
        return len(self.junctions)


def all_words(junctions):
    """The names of all roads as often as they stand, as they stand."""
    return [road for words in junctions for road in words]


def meeting_roads(line):
    """The three names of a line `meet R S T`; none for a line of another form."""
    words = line.split(" ")
    roads = tuple(words[1:])
    if words[0] == FIRST_WORD and len(roads) == 3 and all([is_name(road) for road in roads]):
        return roads
    return ()


def read_junctions(text):
    """The junctions that a text tells, whether or not they hang together."""
    if not isinstance(text, str):
        raise BadWeb(0)
    lines = text.split("\n")
    if lines[0] != FIRST_LINE:
        raise BadWeb(1)
    junctions = []
    for number, line in enumerate(lines[1:], start=2):
        roads = meeting_roads(line)
        standing = all_words([*junctions, roads])
        stands_too_often = any([standing.count(road) > 2 for road in roads])
        if not roads or stands_too_often or len(junctions) == MOST_JUNCTIONS:
            raise BadWeb(number)
        junctions.append(roads)
    if not junctions:
        raise BadWeb(len(lines) + 1)
    return tuple(junctions)


def check_hanging_together(junctions):
    """Refuse junctions of which one does not hang together with the first."""
    found = reached(junctions, 0)
    for number in range(len(junctions)):
        if number not in found:
            # The line of junction 0 is line 2, behind the line `web`.
            raise BadWeb(number + 2)


def places_of(junctions, road):
    """The numbers of the junctions that have any value as a word, each once."""
    return [number for number, words in enumerate(junctions) if road in words]


def reached(junctions, start, closed=()):
    """The numbers of the junctions to which one comes from one of them.

    No way goes along a road that is in closed.
    """
    found = {start: True}
    waiting = [start]
    while waiting:
        here = waiting.pop()
        open_roads = [road for road in junctions[here] if road not in closed]
        for number, words in enumerate(junctions):
            if number not in found and any([road in open_roads for road in words]):
                found[number] = True
                waiting.append(number)
    return found


def is_bridge(web, road):
    """Whether an inner road is a bridge."""
    sides = places_of(web.junctions, road)
    # A road that meets itself has one junction, which reaches itself.
    return sides[-1] not in reached(web.junctions, sides[0], (road,))


def bridges(web):
    """The bridges of a web, ascending."""
    return tuple([road for road in web.inner if is_bridge(web, road)])


def text_of(junctions):
    """The text of the web that has these junctions, as they stand."""
    lines = [f"{FIRST_WORD} {first} {second} {third}" for first, second, third in junctions]
    return "\n".join([FIRST_LINE, *lines])


def called_so(junctions, called):
    """Junctions with the roads that a dict tells called otherwise."""
    return [[called.get(road, road) for road in words] for words in junctions]


def renamed(web, names):
    """The web with its roads, ascending, called otherwise."""
    if not are_unlike_names(names) or len(names) != len(web.roads):
        raise BadNames(names)
    return Web(text_of(called_so(web.junctions, dict(zip(web.roads, names)))))


def sorted_meets(junctions):
    """Junctions, but for the sequence of lines and words."""
    return sorted([sorted(words) for words in junctions])


def same_meets(one, other):
    """Whether two webs are the same but for the sequence of lines and words."""
    return sorted_meets(one.junctions) == sorted_meets(other.junctions)

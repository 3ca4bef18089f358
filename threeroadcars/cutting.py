"""Roads cut, ends joined, ends hung on and taken away (section 14)."""

from threeroadcars.checks import are_unlike_names, is_name
from threeroadcars.errors import BadEnd, BadName, BadNames, Full, Lone, NoInner, NoRoad
from threeroadcars.webs import MOST_JUNCTIONS, Web, called_so, places_of, reached, text_of


def standing_as(junctions, road, names):
    """Junctions in which the standings of a road are called, in sequence, by these names."""
    lines, standing = [], 0
    for words in junctions:
        line = list(words)
        for at, word in enumerate(words):
            if word == road:
                line[at] = names[standing]
                standing += 1
        lines.append(line)
    return lines


def check_free(web, names, kept):
    """Refuse what are not two unlike names, of no roads of the web but perhaps of those kept."""
    if not are_unlike_names(names) or any([name in web.roads and name not in kept for name in names]):
        raise BadNames(names)


def part_around(junctions, start):
    """The web of the junctions that hang together with one of them, as they stand."""
    here = reached(junctions, start)
    return Web(text_of([words for number, words in enumerate(junctions) if number in here]))


def cut(web, road, first, second):
    """The web in which a road is cut in two ends; both webs if it was a bridge."""
    if road not in web.inner:
        raise NoInner(road)
    check_free(web, (first, second), (road,))
    junctions = standing_as(web.junctions, road, (first, second))
    places = places_of(web.junctions, road)
    if places[-1] in reached(junctions, places[0]):
        return (Web(text_of(junctions)),)
    return (part_around(junctions, places[0]), part_around(junctions, places[-1]))


def joined(web, one, other, road):
    """The web in which two ends are one inner road."""
    if one not in web.ends:
        raise BadEnd(one)
    if other not in web.ends or other == one:
        raise BadEnd(other)
    if not is_name(road) or (road in web.roads and road not in (one, other)):
        raise BadName(road)
    return Web(text_of(called_so(web.junctions, {one: road, other: road})))


def hung(web, road, half, end):
    """The web with one more junction on a road, and a new end there."""
    if road not in web.roads:
        raise NoRoad(road)
    check_free(web, (half, end), ())
    if len(web) == MOST_JUNCTIONS:
        raise Full(MOST_JUNCTIONS)
    return Web(text_of([*standing_as(web.junctions, road, (road, half)), (road, half, end)]))


def taken(web, end):
    """The web without an end and its junction."""
    if end not in web.ends:
        raise BadEnd(end)
    if len(web) == 1:
        raise Lone(end)
    here = places_of(web.junctions, end)[0]
    # They are two roads, at most one of them an end: else this would be the only junction.
    others = [word for word in web.junctions[here] if word != end]
    name = min([word for word in others if word in web.ends], default=min(others))
    left = [words for number, words in enumerate(web.junctions) if number != here]
    return Web(text_of(called_so(left, {word: name for word in others})))

"""A desk: a bench to which one speaks in lines (section 16)."""

from threeroadcars.deeds import do_deed, read_deed, read_words
from threeroadcars.errors import BadWords
from threeroadcars.journals import read_journal
from threeroadcars.lots import least_room

OK = "ok"
BORNE = "borne"


def parted(parts):
    """Names and numbers, parted by blanks."""
    return " ".join([str(part) for part in parts])


def take_back(bench):
    """Take the last deed back."""
    bench.undo()
    return OK


def do_again(bench):
    """Do the deed again that was taken back last."""
    bench.redo()
    return OK


def tell_web(bench):
    """The lines of the web behind its first one."""
    return "; ".join(bench.web.text.split("\n")[1:])


def tell_load(bench):
    """What each road bears."""
    return parted([f"{road}={number}" for road, number in zip(bench.web.roads, bench.load)])


def tell_room(bench):
    """The room."""
    return str(bench.room)


def tell_count(bench):
    """How many loads there are."""
    return str(bench.count())


def tell_least(bench):
    """The least room for the ends' loads."""
    return parted(least_room(bench.web, bench.ends))


ANSWERS = {
    "undo": take_back,
    "redo": do_again,
    "web": tell_web,
    "load": tell_load,
    "room": tell_room,
    "count": tell_count,
    "least": tell_least,
}


def read_borne(line):
    """The road of a line `borne ROAD`; None for another line."""
    given = read_words("ww", line.split(" "))
    return given[1] if given is not None and given[0] == BORNE else None


class Desk:
    """A bench, and what is said to it."""

    def __init__(self, text):
        self.bench = read_journal(text)

    def say(self, line):
        """Do what a line says, and tell what it asks."""
        if not isinstance(line, str) or "\n" in line:
            raise BadWords(line)
        if line in ANSWERS:
            answer = ANSWERS[line]
            return answer(self.bench)
        road = read_borne(line)
        if road is not None:
            return parted(self.bench.borne(road))
        deed = read_deed(line)
        if deed is None:
            raise BadWords(line)
        word, given = deed
        do_deed(self.bench, word, given)
        return OK

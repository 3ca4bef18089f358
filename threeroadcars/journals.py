"""Journals of benches, told and read (section 16)."""

from threeroadcars.bench import Bench
from threeroadcars.checks import GREATEST_ROOM, is_up_to
from threeroadcars.deeds import do_deed, first_word, is_deed_word, read_deed, read_words
from threeroadcars.errors import BadJournal, BadWeb, WebError

FIRST_WORD = "bench"


def journal(bench):
    """The text that tells how a bench began, and its deeds that stand."""
    return "\n".join([bench.begun, *bench.deeds])


def read_room(line):
    """The room that a journal's first line tells; None for another line."""
    given = read_words("wn", line.split(" "))
    if given is None or given[0] != FIRST_WORD or not is_up_to(given[1], GREATEST_ROOM):
        return None
    return given[1]


def place_of_deeds(lines):
    """The number of lines ahead of the first deed; all of them without one."""
    for place, line in enumerate(lines):
        if is_deed_word(first_word(line)):
            return place
    return len(lines)


def begin(lines, room):
    """The bench that begins with these lines of a web, the first of which is line 2."""
    try:
        return Bench("\n".join(lines), room)
    except BadWeb as wrong:
        raise BadJournal(wrong.value + 1) from None


def do_line(bench, line, number):
    """Do the deed of the line with this number."""
    deed = read_deed(line)
    if deed is None:
        raise BadJournal(number)
    word, given = deed
    try:
        do_deed(bench, word, given)
    except WebError:
        raise BadJournal(number) from None


def read_journal(text):
    """The bench that a journal tells."""
    if not isinstance(text, str):
        raise BadJournal(0)
    lines = text.split("\n")
    room = read_room(lines[0])
    if room is None:
        raise BadJournal(1)
    place = place_of_deeds(lines)
    bench = begin(lines[1:place], room)
    for number, line in enumerate(lines[place:], start=place + 1):
        do_line(bench, line, number)
    return bench

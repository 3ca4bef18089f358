"""What section 2 tells of all arguments: integers, names, rooms, ends' loads, webs without rounds."""

from threeroadcars.errors import BadEnds, BadRoom, HasRounds

LETTERS = "abcdefghijklmnopqrstuvwxyz"
LONGEST_NAME = 6
GREATEST_ROOM = 10 ** 12


def is_whole(value):
    """Whether any value is an integer; a bool is none."""
    return isinstance(value, int) and not isinstance(value, bool)


def is_up_to(value, greatest):
    """Whether any value is an integer from 0 to the greatest one."""
    return is_whole(value) and 0 <= value <= greatest


def are_up_to(value, greatest):
    """Whether any value is a tuple of integers from 0 to the greatest one."""
    return isinstance(value, tuple) and all([is_up_to(number, greatest) for number in value])


def is_name(value):
    """Whether any value is a name."""
    return (
        isinstance(value, str)
        and 1 <= len(value) <= LONGEST_NAME
        and all([letter in LETTERS for letter in value])
    )


def are_unlike_names(value):
    """Whether any value is a tuple of names, no two of them alike."""
    return (
        isinstance(value, tuple)
        and all([is_name(name) for name in value])
        and len(set(value)) == len(value)
    )


def check_room(room, greatest=GREATEST_ROOM):
    """Refuse what is no room, or one above the greatest."""
    if not is_up_to(room, greatest):
        raise BadRoom(room)


def check_ends(web, room, ends):
    """Refuse what are no ends' loads of the web for the room."""
    if not are_up_to(ends, room) or len(ends) != len(web.ends):
        raise BadEnds(ends)


def check_no_rounds(web):
    """Refuse a web with rounds."""
    if web.rounds > 0:
        raise HasRounds(web.rounds)

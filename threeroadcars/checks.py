"""What is told of values of any kind in section 2: integers, names, rooms."""

from threeroadcars.errors import BadRoom

LETTERS = "abcdefghijklmnopqrstuvwxyz"
LONGEST_NAME = 6
GREATEST_ROOM = 10 ** 12


def is_whole(value):
    """Whether any value is an integer; a bool is none."""
    return isinstance(value, int) and not isinstance(value, bool)


def is_name(value):
    """Whether any value is a name."""
    return (
        isinstance(value, str)
        and 1 <= len(value) <= LONGEST_NAME
        and all([letter in LETTERS for letter in value])
    )


def are_unlike_names(value):
    """Whether any value is a tuple of names, no two of them alike."""
    return (
        isinstance(value, tuple)
        and all([is_name(name) for name in value])
        and len(set(value)) == len(value)
    )


def check_room(room):
    """Refuse what is no room."""
    if not is_whole(room) or not 0 <= room <= GREATEST_ROOM:
        raise BadRoom(room)

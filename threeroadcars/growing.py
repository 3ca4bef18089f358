"""How the number of loads grows if room and ends' loads become n times as great (section 11)."""

from math import gcd

from threeroadcars.checks import check_ends, check_room, is_up_to, is_whole
from threeroadcars.errors import BadTimes, OddEnds
from threeroadcars.loads import is_within
from threeroadcars.lots import excess, heaviest_lots, is_lot, shows_load
from threeroadcars.spans import filled, is_borne
from threeroadcars.tables import count_of_kind

MOST_ROOM = 10 ** 6
MOST_ROOM_WITH_ROUNDS = 6
MOST_TIMES = 10 ** 9
# A load is inner exactly if so much can be taken off each road, and so much off the room.
OFF_ROAD = 2
OFF_ROOM = 4
INNER = "inner"
NO_ROOM = ("room",)
END = "end"
LOT = "lot"


def check_sizes(web, room, ends):
    """Refuse what is no room of this section, or no ends' loads."""
    check_room(room, MOST_ROOM if web.rounds == 0 else MOST_ROOM_WITH_ROUNDS)
    check_ends(web, room, ends)


def check_even(ends):
    """Refuse ends' loads with an odd sum."""
    if sum(ends) % 2:
        raise OddEnds(sum(ends))


def times(n, numbers):
    """Numbers that are n times as great."""
    return tuple([n * number for number in numbers])


def first_worths(web, room, ends):
    """The numbers of loads at n from 0 on, as many as tell the polynomial; none if all are 0."""
    if not is_borne(room, ends, web.rounds):
        return []
    # The degree is at most the number of inner roads, as each bears at most linearly many numbers.
    return [count_of_kind(n * room, times(n, ends), web.rounds) for n in range(len(web.inner) + 1)]


def first_differences(worths):
    """The first of the numbers, of their differences, of the differences of these, and so on."""
    firsts = []
    while worths:
        firsts.append(worths[0])
        worths = [after - before for before, after in zip(worths, worths[1:])]
    return firsts


def times_factor(tops, root):
    """A polynomial multiplied by n less a root."""
    return [higher - root * lower for higher, lower in zip([0, *tops], [*tops, 0])]


def polynomial(worths):
    """The polynomial with these worths at n from 0 on: tops for all powers, and one bottom."""
    # A difference of rank k goes with the ways to choose k of n: n (n - 1) .. (n - k + 1) / k!.
    # Both grow by one factor at each rank; so the bottom so far becomes that of all.
    tops, bottom, choices = [], 1, [1]
    for rank, first in enumerate(first_differences(worths)):
        if rank > 0:
            bottom = bottom * rank
            choices = times_factor(choices, rank - 1)
            tops = [rank * top for top in tops]
        tops = [top + first * choice for top, choice in zip([*tops, 0], choices)]
    return (tops, bottom)


def growth(web, room, ends):
    """The polynomial that tells the number of loads at each n, in fractions (top, bottom)."""
    check_sizes(web, room, ends)
    check_even(ends)
    tops, bottom = polynomial(first_worths(web, room, ends))
    while tops and tops[-1] == 0:
        tops = tops[:-1]
    return tuple([(top // gcd(top, bottom), bottom // gcd(top, bottom)) for top in tops])


def grown(web, room, ends, n):
    """The polynomial's worth at n."""
    check_sizes(web, room, ends)
    check_even(ends)
    if not is_whole(n) or not is_up_to(abs(n), MOST_TIMES):
        raise BadTimes(n)
    tops, bottom = polynomial(first_worths(web, room, ends))
    worth = 0
    for top in reversed(tops):
        worth = worth * n + top
    return worth // bottom


def are_inner_ends(room, ends):
    """Whether room and ends' loads leave what is taken off to tell inner loads."""
    return room >= OFF_ROOM and all([OFF_ROAD <= load <= room - OFF_ROAD for load in ends])


def off_ends(ends):
    """Ends' loads with so much less on each as is taken off to tell inner loads."""
    return tuple([load - OFF_ROAD for load in ends])


def inner_count(web, room, ends):
    """How many loads with these ends' loads are inner."""
    check_sizes(web, room, ends)
    if not are_inner_ends(room, ends):
        return 0
    return count_of_kind(room - OFF_ROOM, off_ends(ends), web.rounds)


def is_full(web, room, ends, names):
    """Whether a lot of ends, of a web without rounds, leaves no load inner."""
    return len(names) % 2 == 1 and excess(web, room, ends, names) >= 0


def why_never_inner(web, room, ends):
    """Why there is no inner load at any n; () if there is one."""
    if room == 0 and not ends:
        return NO_ROOM
    for end, load in zip(web.ends, ends):
        if load in (0, room):
            return (END, end)
    if web.rounds == 0:
        for lot in heaviest_lots(web, ends):
            if is_full(web, room, ends, lot):
                return (LOT, lot)
    return ()


def has_inner(room, ends, rounds):
    """Whether there is an inner load with these ends' loads."""
    return are_inner_ends(room, ends) and is_borne(room - OFF_ROOM, off_ends(ends), rounds)


def first_inner(web, room, ends):
    """The least n at which there is an inner load, and such a load; there is one at some n."""
    n = 1
    while not has_inner(n * room, times(n, ends), web.rounds):
        n += 1
    off = dict(zip(web.ends, off_ends(times(n, ends))))
    load = filled(web, n * room - OFF_ROOM, off)
    return (INNER, n, tuple([number + OFF_ROAD for number in load]))


def ever_inner(web, room, ends):
    """An n at which there is an inner load, and such a load, or why there is none at any n."""
    check_sizes(web, room, ends)
    check_even(ends)
    why = why_never_inner(web, room, ends)
    if why:
        return why
    return first_inner(web, room, ends)


def shows_inner(web, room, ends, n, load):
    """Whether any values are an n and an inner load there."""
    return (
        is_whole(n)
        and n >= 1
        and shows_load(web, n * room, times(n, ends), load)
        and is_within(web, n * room, load)
    )


def shows_never_inner(web, room, ends, value):
    """Whether any value tells why there is no inner load at any n."""
    if value == NO_ROOM:
        return room == 0 and not ends
    if not isinstance(value, tuple) or len(value) != 2:
        return False
    if value[0] == END:
        return value[1] in web.ends and ends[web.ends.index(value[1])] in (0, room)
    return value[0] == LOT and is_lot(web, value[1]) and is_full(web, room, ends, value[1])


def shows_ever_inner(web, room, ends, value):
    """Whether any value is right as what ever_inner tells."""
    check_sizes(web, room, ends)
    check_even(ends)
    if isinstance(value, tuple) and len(value) == 3 and value[0] == INNER:
        return shows_inner(web, room, ends, value[1], value[2])
    return shows_never_inner(web, room, ends, value)

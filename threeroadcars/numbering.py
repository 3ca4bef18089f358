"""Loads by number, in the sequence of their tuples (section 10)."""

from threeroadcars.checks import check_ends, check_room, is_up_to
from threeroadcars.errors import BadNumber
from threeroadcars.loads import check_load, ends_of, load_told
from threeroadcars.spans import parts_beside
from threeroadcars.tables import count_of_kind, row_of_kind, times_each

MOST_ROOM = 60


def ways_beside(web, room, told, road):
    """For each number of a road: how many loads the parts have that it joins, beside what is told."""
    rows = [row_of_kind(room, loads, rounds) for loads, rounds in parts_beside(web.junctions, told, road)]
    if len(rows) == 2:
        return [here * there for here, there in zip(*rows)]
    # Both ends of the road are at one part: its row goes through the table of their number
    # and is told where the other end bears this number, too.
    return [row[number] for number, row in enumerate(times_each(rows[0]))]


def shares(web, room, told, many, road):
    """How many of the loads with what is told, of which there are many, have each number of a road."""
    ways = ways_beside(web, room, told, road)
    # All other parts have as many loads, whatever this road bears.
    elsewhere = many // sum(ways)
    return [number * elsewhere for number in ways]


def place_among(sizes, number):
    """In which of some sizes, one behind the other, a number lies, and how far from its beginning."""
    at = 0
    while number >= sizes[at]:
        number = number - sizes[at]
        at += 1
    return (at, number)


def numbered(web, room, ends, number):
    """The load with a number that is known to be there."""
    told = dict(zip(web.ends, ends))
    many = count_of_kind(room, ends, web.rounds)
    for road in web.inner:
        sizes = shares(web, room, told, many, road)
        told[road], number = place_among(sizes, number)
        many = sizes[told[road]]
    return load_told(web, told)


def number_of(web, room, load):
    """The number of a load that fits."""
    borne = dict(zip(web.roads, load))
    told = {road: borne[road] for road in web.ends}
    many = count_of_kind(room, ends_of(web, load), web.rounds)
    place = 0
    for road in web.inner:
        sizes = shares(web, room, told, many, road)
        told[road] = borne[road]
        many = sizes[borne[road]]
        place += sum(sizes[:borne[road]])
    return place


def load_at(web, room, ends, number):
    """The load with a number among all that fit the room and have these ends' loads."""
    check_room(room, MOST_ROOM)
    check_ends(web, room, ends)
    if not is_up_to(number, count_of_kind(room, ends, web.rounds) - 1):
        raise BadNumber(number)
    return numbered(web, room, ends, number)


def place_of(web, room, load):
    """The number of a load among those that fit the room and have its ends' loads."""
    check_room(room, MOST_ROOM)
    check_load(web, room, load)
    return number_of(web, room, load)


def next_load(web, room, load):
    """The load with the next number; None for the last one."""
    check_room(room, MOST_ROOM)
    check_load(web, room, load)
    ends, number = ends_of(web, load), number_of(web, room, load) + 1
    if number == count_of_kind(room, ends, web.rounds):
        return None
    return numbered(web, room, ends, number)

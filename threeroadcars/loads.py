"""Loads: how many cars each road of a web bears (section 5)."""

from threeroadcars.checks import check_room, is_whole
from threeroadcars.errors import BadLoad, BadRoads


def numbers_at(web, load):
    """For each junction the numbers of its three words, as they stand."""
    borne = dict(zip(web.roads, load))
    return [tuple([borne[road] for road in words]) for words in web.junctions]


def can_meet(numbers):
    """Whether three integers can meet at a junction if its room is no matter."""
    total = sum(numbers)
    return min(numbers) >= 0 and total % 2 == 0 and 2 * max(numbers) <= total


def fits_some_room(web, load):
    """Whether any value is a load of the web for some room, however great."""
    return (
        isinstance(load, tuple)
        and len(load) == len(web.roads)
        and all([is_whole(number) for number in load])
        and all([can_meet(numbers) for numbers in numbers_at(web, load)])
    )


def least_fitting(web, load):
    """The least room that a load fits which fits some room."""
    return max([sum(numbers) for numbers in numbers_at(web, load)]) // 2


def fits(web, room, load):
    """Whether any value is a load of the web that fits what is known to be a room."""
    return fits_some_room(web, load) and least_fitting(web, load) <= room


def check_load(web, room, load):
    """Refuse what is no load of the web that fits the room."""
    if not fits(web, room, load):
        raise BadLoad(load)


def does_fit(web, room, load):
    """Whether any value is a load of the web that fits the room."""
    check_room(room)
    return fits(web, room, load)


def load_told(web, numbers):
    """The tuple of what a dict tells for each road."""
    return tuple([numbers[road] for road in web.roads])


def ends_of(web, load):
    """What the ends bear in a load, ends ascending."""
    return tuple([number for road, number in zip(web.roads, load) if road in web.ends])


def rim(web, room, load):
    """What the ends bear, ends ascending."""
    check_room(room)
    check_load(web, room, load)
    return ends_of(web, load)


def passing(web, room, load):
    """For each junction: the cars from word 1 to 2, from 2 to 3, from 3 to 1."""
    check_room(room)
    check_load(web, room, load)
    return tuple([
        ((a + b - c) // 2, (b + c - a) // 2, (c + a - b) // 2)
        for a, b, c in numbers_at(web, load)
    ])


def needed_room(web, load):
    """The least room that a load fits."""
    if not fits_some_room(web, load):
        raise BadLoad(load)
    return least_fitting(web, load)


def is_within(web, room, load):
    """Whether a load that fits is at no junction just at the border of what fits."""
    return all([
        2 * max(numbers) < sum(numbers) < 2 * room
        for numbers in numbers_at(web, load)
    ])


def is_inner(web, room, load):
    """Whether a load is at no junction just at the border of what fits."""
    check_room(room)
    check_load(web, room, load)
    return is_within(web, room, load)


def has_none_or_two(web, roads):
    """Whether each junction has none or two words among some roads."""
    counts = [sum([road in roads for road in words]) for words in web.junctions]
    return all([count in (0, 2) for count in counts])


def can_switch(web, roads):
    """Whether any value is a tuple of roads that can be switched."""
    return (
        isinstance(roads, tuple)
        and all([road in web.roads for road in roads])
        and list(roads) == sorted(set(roads))
        and has_none_or_two(web, roads)
    )


def switched(web, room, load, roads):
    """The load with room less the number on each of these roads."""
    check_room(room)
    check_load(web, room, load)
    if not can_switch(web, roads):
        raise BadRoads(roads)
    return tuple([
        room - number if road in roads else number
        for road, number in zip(web.roads, load)
    ])

"""A load, or the lot of ends that bars it (section 8)."""

from threeroadcars.checks import GREATEST_ROOM, check_ends, check_room, is_up_to
from threeroadcars.errors import BadNumber, NoRoad
from threeroadcars.loads import ends_of, fits
from threeroadcars.spans import filled, is_borne, span_of
from threeroadcars.webs import is_bridge

ODD = ("odd",)
LOAD = "load"
LOT = "lot"
ROOM = "room"
NEVER = "never"


def excess(web, room, ends, names):
    """What a lot of ends bears less what all others bear, and less (how many it is less 1) rooms."""
    inside = sum([load for name, load in zip(web.ends, ends) if name in names])
    return 2 * inside - sum(ends) - (len(names) - 1) * room


def bars(web, room, ends, names):
    """Whether a lot of ends, of a web without rounds, bars a room."""
    return len(names) % 2 == 1 and excess(web, room, ends, names) > 0


def heaviest_lots(web, ends):
    """For each odd number of ends the lot of them that bears most."""
    falling = sorted(zip(ends, web.ends), reverse=True)
    sizes = range(1, len(ends) + 1, 2)
    return [tuple(sorted([name for _, name in falling[:size]])) for size in sizes]


def some_load(web, room, ends):
    """A load with these ends' loads, or what bars it."""
    check_room(room)
    check_ends(web, room, ends)
    if sum(ends) % 2:
        return ODD
    if is_borne(room, ends, web.rounds):
        return (LOAD, filled(web, room, dict(zip(web.ends, ends))))
    return (LOT, [lot for lot in heaviest_lots(web, ends) if bars(web, room, ends, lot)][0])


def shows_load(web, room, ends, load):
    """Whether any value is a load with these ends' loads."""
    return fits(web, room, load) and ends_of(web, load) == ends


def is_lot(web, names):
    """Whether any value is a lot of ends of a web without rounds."""
    return (
        web.rounds == 0
        and isinstance(names, tuple)
        and all([name in web.ends for name in names])
        and list(names) == sorted(set(names))
    )


def shows_lot(web, room, ends, names):
    """Whether any value is a lot that bars."""
    return is_lot(web, names) and bars(web, room, ends, names)


def shows_some_load(web, room, ends, value):
    """Whether any value is right as what some_load tells."""
    check_room(room)
    check_ends(web, room, ends)
    if sum(ends) % 2:
        return value == ODD
    if not isinstance(value, tuple) or len(value) != 2:
        return False
    if value[0] == LOAD:
        return shows_load(web, room, ends, value[1])
    return value[0] == LOT and shows_lot(web, room, ends, value[1])


def check_given(web, room, ends, road):
    """Refuse what is no room, no ends' loads, no road."""
    check_room(room)
    check_ends(web, room, ends)
    if road not in web.roads:
        raise NoRoad(road)


def span_borne(web, room, ends, road):
    """What borne tells of a road."""
    if not is_borne(room, ends, web.rounds):
        return None
    told = dict(zip(web.ends, ends))
    if road in told:
        return (told[road], told[road], 2)
    least, greatest = span_of(web.junctions, room, told, road)
    return (least, greatest, 2 if is_bridge(web, road) else 1)


def borne(web, room, ends, road):
    """The least and the greatest number that a road bears, and the step between; None for none."""
    check_given(web, room, ends, road)
    return span_borne(web, room, ends, road)


def load_with(web, room, ends, road, number):
    """A load with these ends' loads in which a road bears a number; None if there is none."""
    check_given(web, room, ends, road)
    if not is_up_to(number, room):
        raise BadNumber(number)
    span = span_borne(web, room, ends, road)
    if span is None:
        return None
    least, greatest, step = span
    if not least <= number <= greatest or (number - least) % step != 0:
        return None
    told = dict(zip(web.ends, ends))
    return filled(web, room, {**told, road: number})


def least_room(web, ends):
    """The least room that a load with these ends' loads fits, or why there is none."""
    check_ends(web, GREATEST_ROOM, ends)
    total, greatest = sum(ends), max(ends, default=0)
    if total % 2:
        return ODD
    if web.rounds > 0:
        return (ROOM, greatest)
    if 2 * greatest > total:
        return (NEVER, web.ends[ends.index(greatest)])
    falling = sorted(ends, reverse=True)
    # Rounded up: the least room that is not less than what is to be divided.
    needed = [
        -((total - 2 * sum(falling[:size])) // (size - 1)) for size in range(3, len(ends) + 1, 2)
    ]
    return (ROOM, max([greatest, *needed]))

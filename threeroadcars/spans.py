"""What a road can bear, told by the ends' loads alone, without going through loads (section 8).

A web, or a part of one that cutting some roads leaves, counts here as its ends' loads and
its rounds: which loads there are for its ends hangs on nothing else.
"""

from threeroadcars.loads import load_told
from threeroadcars.webs import places_of, reached


def surplus(room, loads, remainder):
    """The most that a lot bears, less all others, less room for each end of the lot.

    The lot has an even number of ends for the remainder 0, an odd one for 1.
    """
    falling = sorted(loads, reverse=True)
    sizes = range(remainder, len(loads) + 1, 2)
    return max([2 * sum(falling[:size]) - sum(loads) - size * room for size in sizes])


def is_borne(room, loads, rounds):
    """Whether there is a load with these ends' loads."""
    if sum(loads) % 2:
        return False
    # A lot of m ends bars by more than (m - 1) times room.
    return rounds > 0 or surplus(room, loads, 1) <= -room


def span_of_end(room, loads, rounds):
    """The least and the greatest that one more end can bear beside some; all by twos between."""
    total = sum(loads)
    least, greatest = total % 2, room - (room - total) % 2
    if rounds > 0:
        return (least, greatest)
    # Odd lots without the new end must not bar, nor those with it and an even lot.
    return (max(least, surplus(room, loads, 1) + room), min(greatest, -surplus(room, loads, 0)))


def span_on_round(room, loads, rounds):
    """The least and the greatest that a road on a round can bear, rounds being left without it."""
    if rounds > 0:
        return (0, room)
    # Cut, the road is two ends that bear alike. Odd lots with one of them never bar:
    # those with none tell the least number, those with both the greatest one.
    least = max(0, (surplus(room, loads, 1) + room) // 2)
    return (least, room - least)


def rounds_of(junctions, ends):
    """How many rounds a web has with so many junctions and ends."""
    return (junctions - ends) // 2 + 1


def loads_at(junctions, numbers, told):
    """What the told roads bear at the junctions with some numbers, as often as they stand."""
    return [told[road] for number in numbers for road in junctions[number] if road in told]


def parts_beside(junctions, told, road):
    """What cutting some told roads and one more leaves where that one stands: one part or two.

    Told are all ends, and perhaps inner roads. Each part is told by what its ends bear, but
    for what the one road made, and by its rounds; one part alone has both ends of this road.
    """
    places = places_of(junctions, road)
    closed = [*told, road]
    here = reached(junctions, places[0], closed)
    loads = loads_at(junctions, here, told)
    if places[-1] in here:
        return [(loads, rounds_of(len(here), len(loads) + 2))]
    there = reached(junctions, places[-1], closed)
    others = loads_at(junctions, there, told)
    return [
        (loads, rounds_of(len(here), len(loads) + 1)),
        (others, rounds_of(len(there), len(others) + 1)),
    ]


def span_of(junctions, room, told, road):
    """The least and the greatest that a road can bear beside what is told of some others.

    Told are all ends, and perhaps inner roads, so that there is a load.
    """
    parts = parts_beside(junctions, told, road)
    if len(parts) == 1:
        loads, rounds = parts[0]
        return span_on_round(room, loads, rounds)
    spans = [span_of_end(room, loads, rounds) for loads, rounds in parts]
    return (max([least for least, _ in spans]), min([greatest for _, greatest in spans]))


def filled(web, room, told):
    """A load in which some roads bear what is told, all ends among them; there is one."""
    for road in web.inner:
        if road not in told:
            # What is left can still be borne, whatever of its span the road bears.
            told = {**told, road: span_of(web.junctions, room, told, road)[0]}
    return load_told(web, told)

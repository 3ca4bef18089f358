"""Webs without rounds drawn flat, and the trips that do not cross there (section 13)."""

from threeroadcars.checks import check_no_rounds, is_whole
from threeroadcars.errors import BadLoad, BadRoad, BadTrips
from threeroadcars.loads import fits_some_room, load_told
from threeroadcars.trees import begun_with, ends_beyond, junctions_from
from threeroadcars.webs import Web, places_of, text_of


def check_some_load(web, load):
    """Refuse what is no load of the web for any room."""
    if not fits_some_room(web, load):
        raise BadLoad(load)


def round_the_rim(web):
    """All ends as they stand round the rim, from the least name on."""
    beyond = ends_beyond(web)
    return (web.ends[0], *beyond[web.ends[0]])


def rim_walk(web):
    """All ends as they stand round the rim, from the least name on."""
    check_no_rounds(web)
    return round_the_rim(web)


def first_cars(row, many):
    """The first ones of cars that stand in a row, told by ends and how many go there."""
    first = []
    for end, cars in row:
        here = min(cars, many)
        many = many - here
        if here > 0:
            first.append((end, here))
    return first


def last_cars(row, many):
    """The last ones of cars that stand in a row."""
    return first_cars(row[::-1], many)[::-1]


def paired(one, other):
    """The first cars of two rows of as many make a trip, those behind them too, and so on."""
    pairs, waiting = [], other[::-1]
    for end, cars in one:
        while cars > 0:
            goal, most = waiting.pop()
            together = min(cars, most)
            pairs.append(((min(end, goal), max(end, goal)), together))
            cars = cars - together
            if most > together:
                waiting.append((goal, most - together))
    return pairs


def trips(web, load):
    """The row of trips that do not cross in which each road is gone along as often as it bears."""
    check_no_rounds(web)
    check_some_load(web, load)
    borne, start = dict(zip(web.roads, load)), web.ends[0]
    rows, made = {end: [(end, borne[end])] for end in web.ends}, []
    for road, second, third in reversed(junctions_from(web, start)):
        # Round the rim the cars of the second road stand ahead of those of the third one:
        # what goes from one of them to the other stands where both rows touch.
        turning = (borne[second] + borne[third] - borne[road]) // 2
        made.extend(paired(last_cars(rows[second], turning)[::-1], first_cars(rows[third], turning)))
        ahead = first_cars(rows[second], borne[second] - turning)
        rows[road] = ahead + last_cars(rows[third], borne[third] - turning)
    made.extend(paired([(start, borne[start])], rows[start]))
    return tuple(sorted(made))


def is_trip(web, row):
    """Whether any value is ((one, other), cars), one end ahead of another by name."""
    if not isinstance(row, tuple) or len(row) != 2:
        return False
    pair, cars = row
    if not isinstance(pair, tuple) or len(pair) != 2 or not is_whole(cars):
        return False
    return all([end in web.ends for end in pair]) and pair[0] < pair[1] and cars >= 1


def does_cross(one, later):
    """Whether a trip crosses one that begins later round the rim, told by their places there."""
    return one[0] < later[0] < one[1] < later[1]


def is_row_of_trips(web, rows):
    """Whether any value is a row of trips of the web."""
    if not isinstance(rows, tuple) or not all([is_trip(web, row) for row in rows]):
        return False
    pairs = [pair for pair, _ in rows]
    if pairs != sorted(set(pairs)):
        return False
    rim = round_the_rim(web)
    chords = [sorted([rim.index(end) for end in pair]) for pair in pairs]
    return not any([does_cross(one, later) for one in chords for later in chords])


def load_of(web, rows):
    """The load in which each road bears all cars of the trips that go along it."""
    check_no_rounds(web)
    if not is_row_of_trips(web, rows):
        raise BadTrips(rows)
    beyond = ends_beyond(web)
    # A trip goes along a road if just one of its ends lies beyond it.
    return tuple([
        sum([cars for (one, other), cars in rows if (one in beyond[road]) != (other in beyond[road])])
        for road in web.roads
    ])


def check_inner(web, road):
    """Refuse what is not the name of an inner road."""
    if road not in web.inner:
        raise BadRoad(road)


def words_round(web, road):
    """The words X and Y, and Z and W, of both lines that have a road, begun so that it comes last."""
    lines = [begun_with(web.junctions[number], road)[1:] for number in places_of(web.junctions, road)]
    return [word for words in lines for word in words]


def flat_flipped(web, road):
    """The web behind a flat flip, which keeps the rim."""
    check_no_rounds(web)
    check_inner(web, road)
    first, second = places_of(web.junctions, road)
    x, y, z, w = words_round(web, road)
    lines = list(web.junctions)
    lines[first], lines[second] = (w, x, road), (y, z, road)
    return Web(text_of(lines))


def flat_carried(web, load, road):
    """The load behind a flat flip that has the same row of trips."""
    check_no_rounds(web)
    check_some_load(web, load)
    check_inner(web, road)
    borne = dict(zip(web.roads, load))
    x, y, z, w = [borne[word] for word in words_round(web, road)]
    return load_told(web, {**borne, road: max(x + z, y + w) - borne[road]})

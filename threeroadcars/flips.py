"""Flips: four roads around one road joined the other way (section 6)."""

from threeroadcars.checks import check_room, is_whole
from threeroadcars.errors import BadRoad, BadScript, BadWay
from threeroadcars.loads import check_load, load_told
from threeroadcars.webs import Web, places_of, text_of

FIRST_WAY = 1
SECOND_WAY = 2


def can_flip(junctions, road):
    """Whether any value is the name of an inner road that does not meet itself."""
    # An end, and a road that meets itself, stand at one junction alone.
    return len(places_of(junctions, road)) == 2


def is_way(way):
    """Whether any value is a way to flip."""
    return is_whole(way) and FIRST_WAY <= way <= SECOND_WAY


def check_road(web, road):
    """Refuse what cannot be flipped."""
    if not can_flip(web.junctions, road):
        raise BadRoad(road)


def check_way(way):
    """Refuse what is no way to flip."""
    if not is_way(way):
        raise BadWay(way)


def words_beside(junctions, road):
    """The other words of the lines that have a road, as they stand."""
    lines = [junctions[number] for number in places_of(junctions, road)]
    return [word for words in lines for word in words if word != road]


def flipped_junctions(junctions, road, way):
    """The junctions behind a flip that can be done."""
    first, second = places_of(junctions, road)
    x, y, z, w = words_beside(junctions, road)
    lines = list(junctions)
    if way == FIRST_WAY:
        lines[first], lines[second] = (x, z, road), (y, w, road)
    else:
        lines[first], lines[second] = (x, w, road), (z, y, road)
    return tuple(lines)


def flipped(web, road, way):
    """The web behind a flip."""
    check_road(web, road)
    check_way(way)
    return Web(text_of(flipped_junctions(web.junctions, road, way)))


def range_beside(junctions, room, numbers, road):
    """The least and the greatest number that a road can bear beside all others."""
    x, y, z, w = [numbers[word] for word in words_beside(junctions, road)]
    least = max(abs(x - y), abs(z - w))
    greatest = min(x + y, z + w, 2 * room - x - y, 2 * room - z - w)
    return (least, greatest)


def beside(web, room, load, road):
    """The least and the greatest number that a road can bear beside all others."""
    check_room(room)
    check_load(web, room, load)
    check_road(web, road)
    return range_beside(web.junctions, room, dict(zip(web.roads, load)), road)


def numbers_behind(ahead, behind, room, numbers, road):
    """What all roads bear behind a flip of one, told the junctions ahead and behind."""
    # Behind it the road can bear as many numbers by twos as ahead, so the same
    # place among them is as far from the least one.
    least_ahead = range_beside(ahead, room, numbers, road)[0]
    least_behind = range_beside(behind, room, numbers, road)[0]
    return {**numbers, road: numbers[road] - least_ahead + least_behind}


def carried(web, room, load, road, way):
    """The load of the flipped web to which the flip carries a load."""
    check_room(room)
    check_load(web, room, load)
    check_road(web, road)
    check_way(way)
    behind = flipped_junctions(web.junctions, road, way)
    numbers = dict(zip(web.roads, load))
    return load_told(web, numbers_behind(web.junctions, behind, room, numbers, road))


def is_step(junctions, row):
    """Whether any value is a pair of a road and a way that can be done there."""
    return isinstance(row, tuple) and len(row) == 2 and can_flip(junctions, row[0]) and is_way(row[1])


def stages_of(web, script):
    """The junctions ahead of a script, and behind each of its rows."""
    if not isinstance(script, tuple):
        raise BadScript(None)
    stages = [web.junctions]
    for number, row in enumerate(script):
        if not is_step(stages[-1], row):
            raise BadScript(number)
        road, way = row
        stages.append(flipped_junctions(stages[-1], road, way))
    return stages


def led(web, script):
    """The web to which a script leads."""
    return Web(text_of(stages_of(web, script)[-1]))


def led_load(web, room, load, script):
    """The load to which the flips of a script carry a load, one behind the other."""
    check_room(room)
    check_load(web, room, load)
    stages = stages_of(web, script)
    numbers = dict(zip(web.roads, load))
    for (road, _), ahead, behind in zip(script, stages, stages[1:]):
        numbers = numbers_behind(ahead, behind, room, numbers, road)
    return load_told(web, numbers)

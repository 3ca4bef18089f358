"""Loads of webs without rounds, taken apart in layers in which no two cars meet (section 12)."""

from threeroadcars.checks import check_no_rounds, check_room
from threeroadcars.errors import BadLayer
from threeroadcars.loads import can_switch, check_load
from threeroadcars.trees import junctions_from

MOST_ROOM = 40


def dealt(web, room, load):
    """For each road the numbers of the layers in which it is."""
    borne = dict(zip(web.roads, load))
    start = web.ends[0]
    days = {start: list(range(borne[start]))}
    for road, second, third in junctions_from(web, start):
        others = [day for day in range(room) if day not in days[road]]
        to_second = (borne[road] + borne[second] - borne[third]) // 2
        between = others[:borne[second] - to_second]
        days[second] = days[road][:to_second] + between
        days[third] = days[road][to_second:] + between
    return days


def layers(web, room, load):
    """As many layers as the room, such that each road is in as many of them as it bears."""
    check_no_rounds(web)
    check_room(room, MOST_ROOM)
    check_load(web, room, load)
    days = dealt(web, room, load)
    return tuple([tuple([road for road in web.roads if day in days[road]]) for day in range(room)])


def is_layer(web, value):
    """Whether any value is a layer of a web without rounds."""
    # What can be switched is just such a lot of roads.
    return can_switch(web, value)


def shows_layers(web, room, load, value):
    """Whether any value is right as what layers tells."""
    check_no_rounds(web)
    check_room(room, MOST_ROOM)
    check_load(web, room, load)
    if not isinstance(value, tuple) or len(value) != room:
        return False
    if not all([is_layer(web, layer) for layer in value]):
        return False
    return load == tuple([sum([road in layer for layer in value]) for road in web.roads])


def track_from(web, layer, start):
    """The way from an end on along the roads of a layer, to another end."""
    track = [start]
    for road, second, third in junctions_from(web, start):
        if road == track[-1]:
            track.append(second if second in layer else third)
    return tuple(track)


def tracks(web, layer):
    """The ways from end to end that a layer is made of."""
    check_no_rounds(web)
    if not is_layer(web, layer):
        raise BadLayer(layer)
    ways = [track_from(web, layer, end) for end in web.ends if end in layer]
    return tuple([way for way in ways if way[0] < way[-1]])

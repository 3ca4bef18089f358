"""Webs without rounds, gone along from an end on, and round the rim; for layers.py and flat.py."""

from threeroadcars.webs import places_of


def begun_with(words, road):
    """The words of a junction, in turn, from a road on."""
    at = words.index(road)
    return words[at:] + words[:at]


def junctions_from(web, start):
    """The junctions as one comes to them from an end: each behind the one from which one comes.

    Each is begun with the road by which one comes to it.
    """
    found, waiting = [], [(start, number) for number in places_of(web.junctions, start)]
    while waiting:
        road, here = waiting.pop()
        words = begun_with(web.junctions[here], road)
        found.append(words)
        for word in words[1:]:
            waiting.extend([(word, there) for there in places_of(web.junctions, word) if there != here])
    return found


def ends_beyond(web):
    """For each road the ends that lie beyond it, seen from the first end, as they stand round the rim."""
    beyond = {end: (end,) for end in web.ends}
    for road, following, last in reversed(junctions_from(web, web.ends[0])):
        beyond[road] = beyond[following] + beyond[last]
    return beyond

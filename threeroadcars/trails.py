"""Leads any web, flip by flip, to one that looks alike for all webs of its kind.

There each round is a road that meets itself, and what is left is a tree whose leaves,
the ends and these roads, stand in a row.
"""

from threeroadcars.flips import FIRST_WAY, SECOND_WAY, can_flip, flipped_junctions, words_beside
from threeroadcars.webs import places_of


class Trail:
    """Flips of the junctions of a web, one behind the other."""

    def __init__(self, junctions):
        self.stages = [junctions]
        self.steps = []

    def now(self):
        """The junctions to which the flips have led."""
        return self.stages[-1]

    def let_meet(self, road, one, other):
        """Flip a road so that two others meet, which stand at its two junctions."""
        way = way_to_meet(self.now(), road, one, other)
        self.stages.append(flipped_junctions(self.now(), road, way))
        self.steps.append((road, way))


def way_to_meet(junctions, road, one, other):
    """The way to flip a road by which two others meet."""
    wished = sorted([road, one, other])
    lines = flipped_junctions(junctions, road, FIRST_WAY)
    return FIRST_WAY if wished in [sorted(words) for words in lines] else SECOND_WAY


def shortest_way(junctions, starts, goals, closed):
    """The roads from one of some junctions to one of others; None if there is no way.

    The way does not go along the closed road.
    """
    ways = {start: () for start in starts}
    waiting = list(starts)
    while waiting:
        here = waiting.pop(0)
        if here in goals:
            return ways[here]
        for road in [word for word in junctions[here] if word != closed]:
            for there in [number for number in places_of(junctions, road) if number not in ways]:
                ways[there] = ways[here] + (road,)
                waiting.append(there)
    return None


def round_of_several(junctions):
    """The roads of a round, as they follow each other; none if all meet themselves."""
    for words in junctions:
        for road in [word for word in words if can_flip(junctions, word)]:
            first, second = places_of(junctions, road)
            way = shortest_way(junctions, [first], [second], road)
            if way is not None:
                return (road, *way)
    return ()


def shorten_rounds(trail):
    """Flip until each round is a road that meets itself."""
    ring = round_of_several(trail.now())
    while ring:
        while len(ring) > 1:
            trail.let_meet(ring[0], ring[-1], ring[1])
            ring = ring[1:]
        # A stem is a bridge, on no other round: later flips leave what meets itself.
        ring = round_of_several(trail.now())


def bring_together(trail, held, leaf):
    """Flip until two roads meet between which there is one way alone."""
    junctions = trail.now()
    way = shortest_way(junctions, places_of(junctions, held), places_of(junctions, leaf), held)
    for road, following in zip(way, way[1:] + (leaf,)):
        trail.let_meet(road, held, following)


def third_beside(junctions, one, other):
    """The third road where two others meet."""
    lines = [words for words in junctions if one in words and other in words]
    return [word for word in lines[0] if word not in (one, other)][0]


def line_up(trail, leaves):
    """Flip until the leaves of a tree stand in a row; the roads between them."""
    held, row = leaves[0], []
    # If all others stand in the row, the last two meet at its end.
    for leaf in leaves[1:-2]:
        bring_together(trail, held, leaf)
        held = third_beside(trail.now(), held, leaf)
        row.append(held)
    return row


def straighten(web, trail):
    """Lead a web to the form told above; its inner roads, in a sequence that all webs share."""
    shorten_rounds(trail)
    alone = [road for road in web.inner if not can_flip(trail.now(), road)]
    stems = [words_beside(trail.now(), road)[0] for road in alone]
    row = line_up(trail, [*web.ends, *stems])
    inner = []
    # Two roads that meet themselves can have one stem, and a stem can be the only end.
    for road in [*row, *stems, *alone]:
        if road in web.inner and road not in inner:
            inner.append(road)
    return inner

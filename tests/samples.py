"""Webs, loads and values of any kind that several tests use, and plain other ways."""

from itertools import product
from random import Random

from threeroadcars.errors import BadWeb
from threeroadcars.webs import Web


def web_of(*lines):
    return Web('\n'.join(['web', *['meet ' + line for line in lines]]))


def row_of(count):
    """The text of a web without rounds, of so many junctions in a row."""
    names = ['r' + chr(97 + number) for number in range(count + 1)]
    ends = ['e' + chr(97 + number) for number in range(count)]
    lines = [f'meet {names[k]} {ends[k]} {names[k + 1]}' for k in range(count)]
    return '\n'.join(['web', *lines])


def nested(depth):
    value = 'a'
    for number in range(depth):
        value = [(value,), [value], {'a': value}][number % 3]
    return value


TREE = web_of('a b r', 'r c d')
FOUR = web_of('a b r', 'c d r')
RING = web_of('p q r', 'r q s')
DRUM = web_of('x o o')
PAIR = web_of('a a b', 'b c c')
LONE = web_of('a b c')
THREE = web_of('a b c', 'b c a')
LOOP = web_of('r r s')
CLIP = web_of('a p q', 'p q b')
CHAIN = web_of('a b c', 'c d d', 'b e f', 'e f g')
PRISM = web_of('a b x', 'b c y', 'c a z', 'd e x', 'e f y', 'f d z')
LONG = Web(row_of(12))
WEBS = (TREE, FOUR, RING, DRUM, PAIR, LONE, THREE, LOOP, CLIP, CHAIN, PRISM, LONG)
SMALL = (TREE, FOUR, RING, DRUM, PAIR, LONE, THREE, LOOP, CLIP)

NO_STRINGS = (
    0, 1, -1, 10 ** 12, True, False, None, (), ('web',), ('web', 'meet a b c'), [],
    ['web', 'meet a b c'], {}, {'web': 'meet a b c'}, LONE, (LONE,), nested(30),
)
NO_ROOMS = (
    -1, -2, -10 ** 12, 10 ** 12 + 1, 2 * 10 ** 12, 9999999999999, True, False, None,
    '', '1', 'a', (), (1,), [], [1], {}, {1: 1}, LONE, nested(30),
)
ANY_VALUES = NO_STRINGS + ('', 'a', 'web', 'abcde', 'web\nmeet a b c', (1, 2, 3), [1, 2, 3])


def loads_of(web, room):
    """All loads of a small web, counted out as section 2 tells."""
    rows = product(range(room + 1), repeat=len(web.roads))
    return [load for load in rows if fits_plainly(web, room, load)]


def fits_plainly(web, room, load):
    for words in web.junctions:
        a, b, c = [load[web.roads.index(road)] for road in words]
        if a < 0 or b < 0 or c < 0 or (a + b + c) % 2 or a > b + c or b > a + c or c > a + b:
            return False
        if a + b + c > 2 * room:
            return False
    return True


def made_webs(count, seed, most=12):
    """Webs of all sizes, with all numbers of rounds, the same ones each time."""
    chance, webs = Random(seed), []
    while len(webs) < count:
        names = [chr(97 + number) * chance.choice((1, 1, 2, 6)) for number in range(26)]
        size = chance.randint(1, most)
        places = chance.sample(range(3 * size), 3 * size)
        inner = chance.randint(size - 1, 3 * size // 2)
        if 3 * size - inner > 26:
            continue
        chance.shuffle(names)
        words = [''] * (3 * size)
        for road in range(3 * size - inner):
            words[places.pop()] = names[road]
            if road < inner:
                words[places.pop()] = names[road]
        try:
            webs.append(web_of(*[' '.join(words[at:at + 3]) for at in range(0, 3 * size, 3)]))
        except BadWeb:
            continue
    return webs


def even_lots(web):
    """All tuples of roads of which each junction has none or two, each of them ascending."""
    lots = [()]
    for at, road in enumerate(web.roads):
        later = web.roads[at + 1:]
        told = [words for words in web.junctions if not any(word in later for word in words)]
        longer = [lot for old in lots for lot in (old, old + (road,))]
        lots = [lot for lot in longer if all(standings(lot, words) in (0, 2) for words in told)]
    return lots


def standings(roads, words):
    return sum(word in roads for word in words)


def made_loads(web, room, count, chance):
    """Loads of a web with few junctions that fit the room: sums of as many even lots."""
    lots = even_lots(web)
    loads = []
    for _ in range(count):
        load = dict.fromkeys(web.roads, 0)
        for lot in chance.choices(lots, k=room):
            for road in lot:
                load[road] += 1
        loads.append(tuple(load.values()))
    return loads

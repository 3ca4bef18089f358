"""Webs, loads and values of any kind that several tests use, and plain other ways."""

from functools import lru_cache
from itertools import combinations, product
from random import Random

from threeroadcars.errors import BadWeb
from threeroadcars.webs import Web


def web_of(*lines):
    return Web('\n'.join(['web', *['meet ' + line for line in lines]]))


def row_of(count):
    """The text of a web without rounds, of so many junctions in a row."""
    names = ['r' + chr(97 + number) for number in range(count + 1)]
    ends = ['e' + chr(97 + number) for number in range(count)]
    lines = [f'meet {names[k]} {ends[k]} {names[k + 1]}' for k in range(count)]
    return '\n'.join(['web', *lines])


def nested(depth):
    value = 'a'
    for number in range(depth):
        value = [(value,), [value], {'a': value}][number % 3]
    return value


TREE = web_of('a b r', 'r c d')
FOUR = web_of('a b r', 'c d r')
RING = web_of('p q r', 'r q s')
DRUM = web_of('x o o')
PAIR = web_of('a a b', 'b c c')
LONE = web_of('a b c')
THREE = web_of('a b c', 'b c a')
LOOP = web_of('r r s')
CLIP = web_of('a p q', 'p q b')
CHAIN = web_of('a b c', 'c d d', 'b e f', 'e f g')
PRISM = web_of('a b x', 'b c y', 'c a z', 'd e x', 'e f y', 'f d z')
LONG = Web(row_of(12))
WEBS = (TREE, FOUR, RING, DRUM, PAIR, LONE, THREE, LOOP, CLIP, CHAIN, PRISM, LONG)
SMALL = (TREE, FOUR, RING, DRUM, PAIR, LONE, THREE, LOOP, CLIP)

NO_STRINGS = (
    0, 1, -1, 10 ** 12, True, False, None, (), ('web',), ('web', 'meet a b c'), [],
    ['web', 'meet a b c'], {}, {'web': 'meet a b c'}, LONE, (LONE,), nested(30),
)
NO_ROOMS = (
    -1, -2, -10 ** 12, 10 ** 12 + 1, 2 * 10 ** 12, 9999999999999, True, False, None,
    '', '1', 'a', (), (1,), [], [1], {}, {1: 1}, LONE, nested(30),
)
ANY_VALUES = NO_STRINGS + ('', 'a', 'web', 'abcde', 'web\nmeet a b c', (1, 2, 3), [1, 2, 3])


def loads_of(web, room):
    """All loads of a small web, counted out as section 2 tells."""
    rows = product(range(room + 1), repeat=len(web.roads))
    return [load for load in rows if fits_plainly(web, room, load)]


def fits_plainly(web, room, load):
    for words in web.junctions:
        a, b, c = [load[web.roads.index(road)] for road in words]
        if a < 0 or b < 0 or c < 0 or (a + b + c) % 2 or a > b + c or b > a + c or c > a + b:
            return False
        if a + b + c > 2 * room:
            return False
    return True


def made_webs(count, seed, most=12):
    """Webs of all sizes, with all numbers of rounds, the same ones each time."""
    chance, webs = Random(seed), []
    while len(webs) < count:
        names = [chr(97 + number) * chance.choice((1, 1, 2, 6)) for number in range(26)]
        size = chance.randint(1, most)
        places = chance.sample(range(3 * size), 3 * size)
        inner = chance.randint(size - 1, 3 * size // 2)
        if 3 * size - inner > 26:
            continue
        chance.shuffle(names)
        words = [''] * (3 * size)
        for road in range(3 * size - inner):
            words[places.pop()] = names[road]
            if road < inner:
                words[places.pop()] = names[road]
        try:
            webs.append(web_of(*[' '.join(words[at:at + 3]) for at in range(0, 3 * size, 3)]))
        except BadWeb:
            continue
    return webs


def even_lots(web):
    """All tuples of roads of which each junction has none or two, each of them ascending."""
    lots = [()]
    for at, road in enumerate(web.roads):
        later = web.roads[at + 1:]
        told = [words for words in web.junctions if not any(word in later for word in words)]
        longer = [lot for old in lots for lot in (old, old + (road,))]
        lots = [lot for lot in longer if all(standings(lot, words) in (0, 2) for words in told)]
    return lots


def standings(roads, words):
    return sum(word in roads for word in words)


def made_loads(web, room, count, chance):
    """Loads of a web with few junctions that fit the room: sums of as many even lots."""
    lots = even_lots(web)
    loads = []
    for _ in range(count):
        load = dict.fromkeys(web.roads, 0)
        for lot in chance.choices(lots, k=room):
            for road in lot:
                load[road] += 1
        loads.append(tuple(load.values()))
    return loads


def lot_between(web, names):
    """The even lot of a web without rounds that has just these ends, an even number of them."""
    known, left = {end: end in names for end in web.ends}, list(web.junctions)
    while left:
        words = [words for words in left if sum(word in known for word in words) > 1][0]
        left.remove(words)
        for word in words:
            known.setdefault(word, sum(known.get(other, False) for other in words) % 2 == 1)
    return tuple(sorted(road for road in known if known[road]))


def tree_loads(web, room, count, chance):
    """Loads of a web without rounds that fit the room: sums of as many even lots."""
    loads = []
    for _ in range(count):
        load = dict.fromkeys(web.roads, 0)
        for _ in range(room):
            for road in lot_between(web, chance.sample(web.ends, 2 * chance.randint(0, len(web.ends) // 2))):
                load[road] += 1
        loads.append(tuple(load.values()))
    return loads


@lru_cache(maxsize=None)
def all_loads(web_text, room):
    """All loads of the web with this text, road by road, by what section 2 tells of junctions."""
    web = Web(web_text)
    found = [()]
    for at in range(len(web.roads)):
        told = web.roads[:at + 1]
        ready = [words for words in web.junctions if web.roads[at] in words and set(words) <= set(told)]
        longer = [load + (number,) for load in found for number in range(room + 1)]
        found = [load for load in longer if all(meet_plainly(room, load, told, words) for words in ready)]
    return tuple(found)


def meet_plainly(room, load, told, words):
    a, b, c = sorted(load[told.index(road)] for road in words)
    return (a + b + c) % 2 == 0 and c <= a + b and a + b + c <= 2 * room


@lru_cache(maxsize=None)
def loads_by_ends(web_text, room):
    """For all ends' loads that there are: all loads that have them, ascending."""
    web, found = Web(web_text), {}
    for load in all_loads(web_text, room):
        found.setdefault(ends_plainly(web, load), []).append(load)
    return found


def ends_plainly(web, load):
    return tuple(number for road, number in zip(web.roads, load) if road in web.ends)


def flipped_plainly(web, road, way):
    """The lines of the web behind a flip, as section 6 tells."""
    lines = [list(words) for words in web.junctions]
    first, second = [number for number, words in enumerate(lines) if road in words]
    x, y = [word for word in lines[first] if word != road]
    z, w = [word for word in lines[second] if word != road]
    lines[first], lines[second] = {1: ([x, z, road], [y, w, road]), 2: ([x, w, road], [z, y, road])}[way]
    return [' '.join(words) for words in lines]


def flippable(web):
    """The inner roads that do not meet themselves."""
    return [road for road in web.inner if sum(road in words for words in web.junctions) == 2]


def called_plainly(web, called):
    return web_of(*[' '.join(called.get(road, road) for road in words) for words in web.junctions])


def made_trees(count, seed, most=12):
    """Webs without rounds of all sizes: grown at roads by chance, with names, lines and words shuffled."""
    chance, trees = Random(seed), []
    while len(trees) < count:
        lines, many = [[0, 1, 2]], 3
        for _ in range(chance.randint(0, most - 1)):
            line, word = chance.randrange(len(lines)), chance.randrange(3)
            lines.append([lines[line][word], many, many + 1])
            if sum(lines[line][word] in words for words in lines) == 3:
                lines[line][word] = many
            many += 2
        names = chance.sample([a + b for a in 'abcdefg' for b in ('', 'a', 'b', 'zz', 'zzzzz')], many)
        for words in lines:
            chance.shuffle(words)
        chance.shuffle(lines)
        trees.append(web_of(*[' '.join(names[word] for word in words) for words in lines]))
    return trees


def even_ends(web, room, chance, least=0):
    """Ends' loads by chance with an even sum, if the room lets there be any."""
    ends = [chance.randint(least, max(room - least, least)) for _ in web.ends]
    if ends and sum(ends) % 2:
        at = chance.randrange(len(ends))
        ends[at] += 1 if ends[at] < room else -1
    return tuple(ends)


def pairs_of_a_kind(count, seed, most=12):
    """Pairs of webs with the same ends and as many rounds; inner roads of any names."""
    chance, kinds, pairs = Random(seed), {}, []
    for web in made_webs(count, seed + 1, most):
        kinds.setdefault((len(web.ends), web.rounds), []).append(web)
    for webs in kinds.values():
        for one in webs:
            other = chance.choice(webs)
            inner = [name for name in one.inner + tuple(f'q{a}{b}' for a in 'abcde' for b in 'abcde')]
            names = chance.sample(inner, len(other.inner)) + chance.sample(one.ends, len(one.ends))
            pairs.append((one, called_plainly(other, dict(zip(other.inner + other.ends, names)))))
    return pairs


def odd_lots(web):
    """All lots of an odd number of ends."""
    return [lot for size in range(1, len(web.ends) + 1, 2) for lot in combinations(web.ends, size)]


def bars_plainly(web, room, ends, lot):
    inside = sum(load for name, load in zip(web.ends, ends) if name in lot)
    outside = sum(load for name, load in zip(web.ends, ends) if name not in lot)
    return inside - outside > (len(lot) - 1) * room

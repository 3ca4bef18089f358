"""Section 13: webs drawn flat."""

from functools import lru_cache
from itertools import combinations, permutations, product
from random import Random

from tests.case import Case
from tests.samples import (
    ANY_VALUES, CHAIN, DRUM, FOUR, LONE, LONG, TREE, WEBS, called_plainly, ends_plainly, even_ends, fits_plainly,
    made_trees, nested, row_of, tree_loads, web_of,
)
from threeroadcars.counting import count
from threeroadcars.errors import BadLoad, BadRoad, BadTrips, HasRounds
from threeroadcars.flat import flat_carried, flat_flipped, load_of, rim_walk, trips
from threeroadcars.loads import needed_room
from threeroadcars.lots import some_load
from threeroadcars.webs import same_meets, Web

MOST = 10 ** 12
TREES = [LONE, FOUR, TREE, LONG, Web(row_of(3)), web_of('a b x', 'c d y', 'e f z', 'x y z'), *made_trees(70, 111)]
SMALL_TREES = [web for web in TREES if len(web.ends) < 8]
ROUND = [web for web in (*WEBS, CHAIN, DRUM) if web.rounds]
NO_LOADS = (
    *ANY_VALUES, (1, 1, 1, 1, 1), [1, 1, 1, 1, 2], (1, 1, 1, 1), (1, 1, 1, 1, 2, 0), (1, 1, 1, True, 2),
    (1, 1, 1, 1, None), (1, 1, 1, -1, 2), ((1, 1, 1, 1, 2),), (1, 1, 1, 1, '2'), (1, 1, 1, 1, 4), (-1, -1, 1, 1, 0),
)


def rim_plainly(web):
    """Round the rim, as section 13 tells."""
    walk, end = [], web.ends[0]
    while end not in walk:
        walk.append(end)
        here = [words for words in web.junctions if end in words][0]
        road = here[(here.index(end) + 1) % 3]
        while road not in web.ends:
            here = [words for words in web.junctions if road in words and words != here][0]
            road = here[(here.index(road) + 1) % 3]
        end = road
    return tuple(walk)


def goal_of(web, borne, end, place):
    """Where a car goes that begins at an end, as the one with this place there.

    Seen from a junction the cars of each road stand side by side, in turn as the roads stand.
    """
    here, road = [words for words in web.junctions if end in words][0], end
    while True:
        at = here.index(road)
        a, b, c = [borne[here[(at + more) % 3]] for more in range(3)]
        to_following = (a + b - c) // 2
        if a - 1 - place < to_following:
            road, place = here[(at + 1) % 3], a - 1 - place
        else:
            road, place = here[(at + 2) % 3], c - 1 - place
        if road in web.ends:
            return road
        here = [words for words in web.junctions if road in words and words != here][0]
        place = borne[road] - 1 - place


def trips_plainly(web, load):
    """The row of trips, car by car."""
    borne, made = dict(zip(web.roads, load)), {}
    for end in web.ends:
        for place in range(borne[end]):
            goal = goal_of(web, borne, end, place)
            if end < goal:
                made[end, goal] = made.get((end, goal), 0) + 1
    return tuple(sorted(made.items()))


def way_plainly(web, one, other):
    """The roads from an end to another one."""
    ways = [(one,)]
    for way in ways:
        for words in web.junctions:
            if way[-1] in words:
                ways += [way + (word,) for word in words if word not in way and not set(words) & set(way[:-1])]
    return [way for way in ways if way[-1] == other][0]


def load_plainly(web, rows):
    borne = dict.fromkeys(web.roads, 0)
    for (one, other), cars in rows:
        for road in way_plainly(web, one, other):
            borne[road] += cars
    return tuple(borne.values())


def cross_plainly(rim, one, other):
    """Whether one comes, going round the rim, upon the ends of two pairs by turns."""
    met = [end in one for end in rim if end in one + other]
    return len(set(one + other)) == 4 and met[0] == met[2]


@lru_cache(maxsize=None)
def pairings(places):
    """In how many ways places round the rim, told by their ends, are paired without crossing, none with its own."""
    if not places:
        return 1
    total = 0
    for at in range(1, len(places), 2):
        if places[at] != places[0]:
            total += pairings(places[1:at]) * pairings(places[at + 1:])
    return total


def turned(web, chance):
    """The web with the words of each line turned about, not exchanged, and lines in another sequence."""
    lines = []
    for words in web.junctions:
        at = chance.randrange(3)
        lines.append(' '.join(words[at:] + words[:at]))
    chance.shuffle(lines)
    return web_of(*lines)


class RimWalk(Case):

    def test_as_the_section_tells(self):
        for web in TREES:
            told = rim_walk(web)
            self.assertEqual(told, rim_plainly(web))
            self.assertEqual([type(told), sorted(told), told[0]], [tuple, list(web.ends), web.ends[0]])

    def test_words_turned_about_and_other_sequences_of_lines(self):
        chance = Random(112)
        for web in TREES:
            for _ in range(4):
                self.assertEqual(rim_walk(turned(web, chance)), rim_walk(web))

    def test_two_words_exchanged(self):
        self.assertEqual(rim_walk(web_of('a r b', 'c d r')), ('a', 'c', 'd', 'b'))
        self.assertEqual(rim_walk(web_of('b a r', 'c d r')), ('a', 'c', 'd', 'b'))
        self.assertEqual(rim_walk(web_of('a b r', 'd c r')), ('a', 'b', 'd', 'c'))
        chance, seen = Random(113), 0
        for web in TREES:
            lines = [list(words) for words in web.junctions]
            words = chance.choice(lines)
            words[0], words[1] = words[1], words[0]
            other = web_of(*[' '.join(words) for words in lines])
            self.assertEqual(rim_walk(other), rim_plainly(other))
            seen += rim_walk(other) != rim_walk(web)
        self.assertEqual(seen, len(TREES))

    def test_all_lines_the_other_way_round(self):
        for web in TREES:
            other = web_of(*[' '.join(words[::-1]) for words in web.junctions])
            first, *others = rim_walk(web)
            self.assertEqual(rim_walk(other), (first, *others[::-1]))

    def test_three_to_fourteen_ends(self):
        self.assertEqual({len(web.ends) for web in TREES}, set(range(3, 15)))
        self.assertEqual([rim_walk(LONE), rim_walk(web_of('c b a'))], [('a', 'b', 'c'), ('a', 'c', 'b')])
        self.assertEqual(rim_walk(LONG), ('ea', 'eb', 'ec', 'ed', 'ee', 'ef', 'eg', 'eh', 'ei', 'ej', 'ek', 'el', 'rm',
                                          'ra'))


class Trips(Case):

    def check_row(self, web, load, told):
        self.assertIs(type(told), tuple)
        for row in told:
            (one, other), cars = row
            self.assertEqual([type(row), type(row[0]), type(cars)], [tuple, tuple, int])
            self.assertLess(one, other)
            self.assertGreaterEqual(cars, 1)
        self.assertEqual(list(told), sorted(dict(told).items()))
        self.assertFalse(any(cross_plainly(rim_plainly(web), one[0], other[0]) for one, other in combinations(told, 2)))
        self.assertEqual(load_plainly(web, told), load)

    def test_following_each_car(self):
        chance = Random(114)
        for web in TREES:
            for room in (1, 2, 7, 20):
                for load in tree_loads(web, room, 2, chance):
                    told = trips(web, load)
                    self.assertEqual(told, trips_plainly(web, load))
                    self.check_row(web, load, told)
                    self.assertEqual(load_of(web, told), load)

    def test_far_numbers(self):
        chance, seen = Random(115), 0
        for web in TREES:
            for room in (MOST, 10 ** 6):
                ends = even_ends(web, room, chance)
                told = some_load(web, room, ends)
                if told[0] == 'load':
                    seen += 1
                    row = trips(web, told[1])
                    self.check_row(web, told[1], row)
                    self.assertEqual(load_of(web, row), told[1])
                    for many in (2, 10 ** 9):
                        greater = tuple(many * number for number in told[1])
                        self.assertEqual(trips(web, greater), tuple((pair, many * cars) for pair, cars in row))
                        self.assertEqual(load_of(web, trips(web, greater)), greater)
        self.assertGreater(seen, 40)

    def test_no_car_at_all(self):
        for web in TREES:
            zeros = (0,) * len(web.roads)
            self.assertEqual([trips(web, zeros), load_of(web, ())], [(), zeros])

    def test_at_one_junction(self):
        self.assertEqual(trips(LONE, (2, 2, 2)), ((('a', 'b'), 1), (('a', 'c'), 1), (('b', 'c'), 1)))
        self.assertEqual(trips(LONE, (5, 3, 2)), ((('a', 'b'), 3), (('a', 'c'), 2)))
        self.assertEqual(trips(LONE, (MOST, MOST, 0)), ((('a', 'b'), MOST),))

    def test_words_turned_about_change_nothing(self):
        chance = Random(116)
        for web in TREES:
            load = tree_loads(web, 9, 1, chance)[0]
            self.assertEqual(trips(turned(web, chance), load), trips(web, load))

    def test_what_crosses_hangs_on_how_words_stand(self):
        load = (1, 1, 1, 1, 2)
        self.assertEqual(trips(FOUR, load), ((('a', 'd'), 1), (('b', 'c'), 1)))
        self.assertEqual(trips(web_of('a b r', 'd c r'), load), ((('a', 'c'), 1), (('b', 'd'), 1)))

    def test_as_many_loads_as_pairings(self):
        for web in SMALL_TREES:
            for ends in product(range(3), repeat=len(web.ends)) if len(web.ends) < 6 else [(1,) * len(web.ends)]:
                places = tuple(end for end in rim_walk(web) for _ in range(ends[web.ends.index(end)]))
                many = pairings(places) if len(places) % 2 == 0 else 0
                self.assertEqual(count(web, sum(ends), ends), many)


class LoadOf(Case):

    def rows_of(self, web, chance):
        """A row of trips by chance: pairs that do not cross, with cars."""
        rim, pairs = rim_plainly(web), []
        for pair in chance.sample(list(combinations(web.ends, 2)), min(20, len(web.ends) * (len(web.ends) - 1) // 2)):
            if not any(cross_plainly(rim, pair, other) for other in pairs):
                pairs.append(pair)
        pairs = chance.sample(pairs, chance.randint(0, len(pairs)))
        return tuple((pair, chance.choice((1, 2, 9, MOST, 10 ** 30))) for pair in sorted(pairs))

    def test_there_and_back(self):
        chance = Random(117)
        for web in TREES:
            for _ in range(5):
                rows = self.rows_of(web, chance)
                load = load_of(web, rows)
                self.assertEqual(load, load_plainly(web, rows))
                self.assertTrue(fits_plainly(web, sum(load), load))
                self.assertEqual(trips(web, load), rows)
                twice = tuple((pair, 2 * cars) for pair, cars in rows)
                self.assertEqual(load_of(web, twice), tuple(2 * number for number in load))
                self.assertEqual(load_of(web, rows[1:]), load_plainly(web, rows[1:]))

    def test_all_pairs_of_trips(self):
        for web in SMALL_TREES:
            rim = rim_plainly(web)
            for one, other in combinations(combinations(web.ends, 2), 2):
                rows = ((one, 1), (other, 2))
                if cross_plainly(rim, one, other):
                    self.refuse(BadTrips, rows, load_of, web, rows)
                else:
                    self.assertEqual(load_of(web, rows), load_plainly(web, rows))

    def test_rows_that_cross(self):
        for rows in (((('a', 'c'), 1), (('b', 'd'), 1)), ((('a', 'b'), 1), (('a', 'c'), 3), (('b', 'd'), MOST))):
            self.refuse(BadTrips, rows, load_of, FOUR, rows)
        other = web_of('a b r', 'd c r')
        self.assertEqual(load_of(other, ((('a', 'c'), 1), (('b', 'd'), 1))), (1, 1, 1, 1, 2))
        rows = ((('a', 'd'), 1), (('b', 'c'), 1))
        self.refuse(BadTrips, rows, load_of, other, rows)
        self.assertEqual(load_of(FOUR, rows), (1, 1, 1, 1, 2))

    def test_rows_near_right_ones(self):
        right = ((('a', 'b'), 1), (('a', 'd'), 2))
        self.assertEqual(load_of(FOUR, right), (3, 1, 0, 2, 2))
        for rows in (right[::-1], (right[0], right[0]), (right[0], (('a', 'b'), 2)), ((('b', 'a'), 1),),
                     ((('a', 'b'), 0),), ((('a', 'b'), -1),), ((('a', 'b'), True),), ((('a', 'b'), None),),
                     ((('a', 'b'), '1'),), ((('a', 'a'), 1),), ((('a', 'r'), 1),), ((('a', 'x'), 1),), ((('a',), 1),),
                     ((('a', 'b', 'c'), 1),), ((('a', 'b'),),), ((('a', 'b'), 1, 1),), (['ab', 1],), (('ab', 1),),
                     (([('a'), 'b'], 1),), ([('a', 'b'), 1],), [(('a', 'b'), 1)], list(right), (right,), right[0],
                     ((('a', 'b'), (1,)),), ((('a', None), 1),), (((None, None), 1),), ((('a', ['b']), 1),),
                     (((1, 2), 1),), ((('A', 'b'), 1),), (('a', 'b', 1),), ({('a', 'b'): 1},), ((), ()), (None,),
                     ((('a', 'b'), 1), (('a', 'b'), 1), (('a', 'd'), 2)), ((('a', 'b'), 1), None)):
            self.refuse(BadTrips, rows, load_of, FOUR, rows)

    def test_values_of_any_kind(self):
        for rows in ANY_VALUES:
            if rows != ():
                self.refuse(BadTrips, rows, load_of, FOUR, rows)
        for rows in ([], {}, '', None, 0, nested(30), (nested(29),), ((nested(28), 1),), ((('a', 'b'), nested(28)),),
                     (FOUR,), ((FOUR, FOUR),), (((FOUR, FOUR), 1),), {('a', 'b'): 1}):
            self.refuse(BadTrips, rows, load_of, FOUR, rows)


class FlatFlips(Case):

    def flipped_plainly(self, web, road):
        lines = [list(words) for words in web.junctions]
        first, second = [at for at, words in enumerate(lines) if road in words]
        while lines[first][2] != road:
            lines[first] = lines[first][1:] + lines[first][:1]
        while lines[second][2] != road:
            lines[second] = lines[second][1:] + lines[second][:1]
        (x, y, _), (z, w, _) = lines[first], lines[second]
        lines[first], lines[second] = [w, x, road], [y, z, road]
        return web_of(*[' '.join(words) for words in lines])

    def test_as_the_section_tells(self):
        for web in TREES:
            for road in web.inner:
                told = flat_flipped(web, road)
                self.assertIs(type(told), Web)
                self.assertEqual(told, self.flipped_plainly(web, road))
                self.assertEqual([told.roads, told.ends, told.rounds], [web.roads, web.ends, 0])

    def test_the_rim_and_the_row_of_trips_stay(self):
        chance = Random(118)
        for web in TREES:
            for load in tree_loads(web, 11, 2, chance):
                for road in web.inner:
                    other, there = flat_flipped(web, road), flat_carried(web, load, road)
                    self.assertEqual(rim_walk(other), rim_walk(web))
                    self.assertEqual(trips(other, there), trips(web, load))
                    self.assertEqual(there, load_of(other, trips(web, load)))
                    at = web.roads.index(road)
                    self.assertEqual(there[:at] + there[at + 1:], load[:at] + load[at + 1:])
                    self.assertEqual({type(number) for number in there}, {int})

    def test_ahead_and_behind_are_together_the_greater_sum(self):
        self.assertEqual(flat_carried(FOUR, (2, 1, 2, 1, 1), 'r'), (2, 1, 2, 1, 3))
        self.assertEqual(flat_carried(FOUR, (1, 1, 1, 1, 0), 'r'), (1, 1, 1, 1, 2))
        self.assertEqual(flat_carried(FOUR, (MOST, MOST, 7, 7, 0), 'r'), (MOST, MOST, 7, 7, MOST + 7))
        self.assertEqual(flat_carried(web_of('r a b', 'd r c'), (3, 1, 4, 2, 2), 'r'), (3, 1, 4, 2, 5))

    def test_twice_on_one_road(self):
        chance = Random(119)
        for web in TREES:
            load = tree_loads(web, 8, 1, chance)[0]
            for road in web.inner:
                other, there = flat_flipped(web, road), flat_carried(web, load, road)
                again = flat_flipped(other, road)
                self.assertTrue(same_meets(again, web))
                self.assertEqual(flat_carried(other, there, road), load)
                self.assertEqual(trips(again, load), trips(web, load))

    def test_five_flips_by_turns_let_two_roads_change_places(self):
        chance, seen = Random(120), 0
        for web in TREES:
            for words in web.junctions:
                for one, other in permutations([word for word in words if word in web.inner], 2):
                    load = tree_loads(web, 6, 1, chance)[0]
                    there, borne = web, load
                    for road in (one, other, one, other, one):
                        there, borne = flat_flipped(there, road), flat_carried(there, borne, road)
                    named = called_plainly(web, {one: other, other: one})
                    self.assertTrue(same_meets(there, named))
                    self.assertEqual(rim_walk(there), rim_walk(named))
                    told = dict(zip(web.roads, load))
                    told[one], told[other] = told[other], told[one]
                    self.assertEqual(borne, tuple(told.values()))
                    seen += 1
        self.assertGreater(seen, 300)

    def test_roads_that_have_no_junction_in_common(self):
        web, load = Web(row_of(5)), tree_loads(Web(row_of(5)), 5, 1, Random(121))[0]
        one = flat_flipped(flat_flipped(web, 'rb'), 're')
        other = flat_flipped(flat_flipped(web, 're'), 'rb')
        self.assertEqual(one, other)
        self.assertEqual(flat_carried(flat_flipped(web, 'rb'), flat_carried(web, load, 'rb'), 're'),
                         flat_carried(flat_flipped(web, 're'), flat_carried(web, load, 're'), 'rb'))

    def test_no_inner_road(self):
        for road in (*ANY_VALUES, 'a', 'b', 'x', '', 'R', 'rr', ('r',), ['r'], 'a b r', nested(30)):
            self.refuse(BadRoad, road, flat_flipped, FOUR, road)
            self.refuse(BadRoad, road, flat_carried, FOUR, (0,) * 5, road)


class WrongArguments(Case):

    def rounds(self, web, function, *given):
        with self.assertRaises(HasRounds) as caught:
            function(web, *given)
        self.assertEqual([type(caught.exception), caught.exception.value], [HasRounds, web.rounds])

    def test_rounds_come_ahead_of_all_else(self):
        for web in ROUND:
            zeros = (0,) * len(web.roads)
            self.rounds(web, rim_walk)
            for value in (zeros, None, [0], (), web.roads[0]):
                self.rounds(web, trips, value)
                self.rounds(web, load_of, value)
                self.rounds(web, flat_flipped, value)
                for road in (*web.inner, None, 'x'):
                    self.rounds(web, flat_carried, value, road)

    def test_loads(self):
        for load in NO_LOADS:
            self.refuse(BadLoad, load, trips, FOUR, load)
            for road in ('r', 'a', None):
                self.refuse(BadLoad, load, flat_carried, FOUR, load, road)

    def test_loads_that_fit_some_room_however_great(self):
        load = (3 * MOST, 2 * MOST, 4 * MOST, MOST, 5 * MOST)
        self.assertEqual(needed_room(FOUR, load), 5 * MOST)
        self.assertEqual(trips(FOUR, load), ((('a', 'c'), 2 * MOST), (('a', 'd'), MOST), (('b', 'c'), 2 * MOST)))
        self.assertEqual(load_of(FOUR, trips(FOUR, load)), load)

    def test_several_wrong_at_once(self):
        for load, road in product(((1, 1, 1, 1, 0), (1, 1, 1, 1, 1), None), ('r', 'a', None)):
            if load != (1, 1, 1, 1, 0):
                self.refuse(BadLoad, load, flat_carried, FOUR, load, road)
            elif road != 'r':
                self.refuse(BadRoad, road, flat_carried, FOUR, load, road)


class Conventions(Case):

    def test_equal_calls_return_equal_results(self):
        chance = Random(122)
        for web in TREES:
            again, load = Web(web.text), tree_loads(web, 6, 1, chance)[0]
            self.assertEqual(rim_walk(again), rim_walk(web))
            self.assertEqual(trips(again, load), trips(web, load))
            self.assertEqual(load_of(again, trips(web, load)), load)
            for road in web.inner:
                self.assertEqual(flat_flipped(again, road), flat_flipped(web, road))
                self.assertEqual(flat_carried(again, load, road), flat_carried(web, load, road))

    def test_nothing_changes_its_arguments(self):
        web, rows, load = Web(FOUR.text), [(('a', 'b'), 1)], [1, 1, 1, 1, 0]
        self.refuse(BadTrips, rows, load_of, web, rows)
        self.refuse(BadLoad, load, trips, web, load)
        flat_flipped(web, 'r')
        flat_carried(web, tuple(load), 'r')
        self.assertEqual([rows, load, web, web.junctions], [[(('a', 'b'), 1)], [1, 1, 1, 1, 0], FOUR, FOUR.junctions])

    def test_ends_bear_their_trips(self):
        chance = Random(123)
        for web in TREES:
            load = tree_loads(web, 6, 1, chance)[0]
            row = trips(web, load)
            told = tuple(sum(cars for pair, cars in row if end in pair) for end in web.ends)
            self.assertEqual(told, ends_plainly(web, load))

"""Section 14: cutting and joining."""

from itertools import product
from random import Random

from tests.case import Case
from tests.plain_bench import cut_plainly, hung_plainly, joined_plainly, taken_plainly
from tests.samples import (
    ANY_VALUES, CHAIN, CLIP, DRUM, FOUR, LONE, LONG, LOOP, PAIR, PRISM, RING, SMALL, THREE, TREE, WEBS,
    called_plainly, even_ends, made_trees, made_webs, nested, row_of, web_of,
)
from threeroadcars.counting import count
from threeroadcars.cutting import cut, hung, joined, taken
from threeroadcars.errors import BadEnd, BadName, BadNames, Full, Lone, NoInner, NoRoad
from threeroadcars.webs import Web, bridges

LARGE = [*WEBS, CHAIN, PRISM, *made_webs(120, 131), *made_trees(20, 132)]
LITTLE = [*SMALL, CHAIN, PRISM, *made_webs(40, 133, most=4), *made_trees(10, 134, 4)]
NO_NAMES = ('', 'A', 'aA', 'abcdefg', 'a b', 'a\n', '1', 'a1', 1, True, False, None, (), ('m',), ['m'], [], {}, LONE,
            nested(30))
NO_ROADS = (*[value for value in ANY_VALUES if value != 'a'], 'zz', '', 'R', ('r',), ['r'], 'a b', nested(30))


def borne_alike(web, road, ends, first, second):
    """For each number: the ends' loads of the webs that come of cutting the road, both new ends bearing it."""
    told = dict(zip(web.ends, ends))
    return lambda part, number: tuple(
        number if end in (first, second) else told[end] for end in part.ends)


class Cut(Case):

    def test_as_the_section_tells(self):
        for web in LARGE:
            for road in web.inner:
                for first, second in (('zx', 'zy'), (road, 'zq'), ('zq', road)):
                    told = cut(web, road, first, second)
                    self.assertEqual(told, cut_plainly(web, road, first, second))
                    self.assertEqual([type(told), {type(part) for part in told}], [tuple, {Web}])
                    self.assertEqual(len(told), 2 if road in bridges(web) else 1)
                    self.assertIn(first, told[0].ends)
                    self.assertIn(second, told[-1].ends)

    def test_bridges_fall_in_two(self):
        self.assertEqual(cut(PAIR, 'b', 'x', 'y'), (web_of('a a x'), web_of('y c c')))
        self.assertEqual(cut(PAIR, 'b', 'b', 'z'), (web_of('a a b'), web_of('z c c')))
        web = web_of('r d c', 'e f s', 'a s r')
        self.assertEqual(cut(web, 'r', 'm', 'n'), (web_of('m d c'), web_of('e f s', 'a s n')))
        self.assertEqual(cut(web, 's', 'm', 'n'), (web_of('e f m'), web_of('r d c', 'a n r')))

    def test_roads_on_rounds(self):
        self.assertEqual(cut(RING, 'q', 'm', 'n'), (web_of('p m r', 'r n s'),))
        self.assertEqual(cut(RING, 'r', 'n', 'm'), (web_of('p q n', 'm q s'),))
        self.assertEqual(cut(THREE, 'b', 'b', 'x'), (web_of('a b c', 'x c a'),))

    def test_roads_that_meet_themselves(self):
        self.assertEqual(cut(LOOP, 'r', 'm', 'n'), (web_of('m n s'),))
        self.assertEqual(cut(LOOP, 'r', 'n', 'r'), (web_of('n r s'),))
        self.assertEqual(cut(DRUM, 'o', 'o', 'b'), (web_of('x o b'),))
        self.assertEqual(cut(web_of('r s r'), 'r', 'm', 'n'), (web_of('m s n'),))

    def test_joined_again(self):
        for web in LARGE:
            for road in web.inner:
                if road not in bridges(web):
                    for first, second in (('zx', 'zy'), (road, 'zq'), ('zq', road)):
                        part, = cut(web, road, first, second)
                        self.assertEqual(part.rounds, web.rounds - 1)
                        self.assertEqual(joined(part, first, second, road), web)
                        self.assertEqual(joined(part, second, first, road), web)

    def test_as_many_loads_as_over_all_that_the_road_can_bear(self):
        chance = Random(135)
        for web in LITTLE:
            for road in web.inner:
                for room in (0, 1, 3, 5):
                    ends = even_ends(web, room, chance)
                    parts, told = cut(web, road, 'zx', 'zy'), borne_alike(web, road, ends, 'zx', 'zy')
                    total = 0
                    for number in range(room + 1):
                        many = 1
                        for part in parts:
                            many *= count(part, room, told(part, number))
                        total += many
                    self.assertEqual(total, count(web, room, ends))

    def test_greater_webs_and_rooms(self):
        chance = Random(136)
        for web in (PRISM, LONG, *made_webs(12, 137), *made_trees(4, 138)):
            ends = even_ends(web, 20, chance)
            for road in chance.sample(web.inner, min(2, len(web.inner))):
                parts, told, total = cut(web, road, road, 'zq'), borne_alike(web, road, ends, road, 'zq'), 0
                for number in range(21):
                    counts = [count(part, 20, told(part, number)) for part in parts]
                    total += counts[0] * counts[-1] if len(counts) == 2 else counts[0]
                self.assertEqual(total, count(web, 20, ends))

    def test_no_inner_road(self):
        for road in (*NO_ROADS, 'a', 'd'):
            for first, second in (('m', 'n'), ('m', 'm'), (None, 'a')):
                self.refuse(NoInner, road, cut, FOUR, road, first, second)
        self.refuse(NoInner, 'a', cut, LONE, 'a', 'm', 'n')

    def names_refused(self, function, web, road, *names):
        with self.subTest(function.__name__, names=names):
            with self.assertRaises(BadNames) as caught:
                function(web, road, *names)
            self.assertIs(type(caught.exception), BadNames)
            value = caught.exception.value
            self.assertEqual([type(value), len(value)], [tuple, 2])
            self.assertIs(value[0], names[0])
            self.assertIs(value[1], names[1])

    def test_wrong_names(self):
        for name in (*NO_NAMES, 'a', 'b', 'c', 'd'):
            for function in (cut, hung):
                self.names_refused(function, FOUR, 'r', name, 'm')
                self.names_refused(function, FOUR, 'r', 'm', name)
                self.names_refused(function, FOUR, 'r', name, name)
        for name in ('m', 'r'):
            self.names_refused(cut, FOUR, 'r', name, name)
        for names in (('r', 'm'), ('m', 'r'), ('r', 'r'), ('m', 'm')):
            self.names_refused(hung, FOUR, 'r', *names)
        self.names_refused(hung, FOUR, 'a', 'a', 'm')
        self.names_refused(hung, FOUR, 'a', 'm', 'r')
        self.names_refused(cut, THREE, 'a', 'a', 'b')


class Joined(Case):

    def test_as_the_section_tells(self):
        for web in LARGE:
            for one, other in product(web.ends, repeat=2):
                if one != other:
                    for road in (one, other, 'zq', 'zqqqqq'):
                        told = joined(web, one, other, road)
                        self.assertEqual(told, joined_plainly(web, one, other, road))
                        self.assertEqual([told.rounds, len(told)], [web.rounds + 1, len(web)])

    def test_ends_of_one_line_and_of_unlike_ones(self):
        self.assertEqual(joined(FOUR, 'a', 'b', 'x'), web_of('x x r', 'c d r'))
        self.assertEqual(joined(FOUR, 'd', 'a', 'd'), web_of('d b r', 'c d r'))
        self.assertEqual(joined(joined(FOUR, 'a', 'b', 'a'), 'c', 'd', 'b'), web_of('a a r', 'b b r'))
        self.assertEqual(joined(LONE, 'a', 'c', 'a'), web_of('a b a'))

    def test_as_many_loads_as_over_all_that_both_can_bear(self):
        chance = Random(139)
        for web in LITTLE:
            for one, other in list(product(web.ends, repeat=2))[:8]:
                if one != other:
                    whole = joined(web, one, other, 'zq')
                    for room in (1, 4):
                        ends = even_ends(whole, room, chance)
                        told = dict(zip(whole.ends, ends))
                        total = 0
                        for number in range(room + 1):
                            both = {**told, one: number, other: number}
                            total += count(web, room, tuple(both[end] for end in web.ends))
                        self.assertEqual(count(whole, room, ends), total)

    def test_no_end(self):
        for end in (*NO_ROADS, 'r', 'x'):
            for other, road in (('b', 'm'), (None, 'm'), ('b', None), ('x', 'c')):
                self.refuse(BadEnd, end, joined, FOUR, end, other, road)
            for road in ('m', 'c', None):
                self.refuse(BadEnd, end, joined, FOUR, 'a', end, road)
        for end in FOUR.ends:
            for road in (end, 'm', None):
                self.refuse(BadEnd, end, joined, FOUR, end, end, road)

    def test_no_name(self):
        for road in (*NO_NAMES, 'c', 'd', 'r'):
            self.refuse(BadName, road, joined, FOUR, 'a', 'b', road)

    def test_which_end_is_told_first(self):
        one, other = 'x' * 2, 'x' * 3
        self.refuse(BadEnd, one, joined, FOUR, one, other, None)
        self.refuse(BadEnd, other, joined, FOUR, 'a', other, None)


class Hung(Case):

    def test_as_the_section_tells(self):
        for web in LARGE:
            if len(web) < 12:
                for road in web.roads:
                    told = hung(web, road, 'zx', 'zy')
                    self.assertEqual(told, hung_plainly(web, road, 'zx', 'zy'))
                    self.assertEqual([told.rounds, len(told)], [web.rounds, len(web) + 1])
                    self.assertEqual(told.junctions[-1], (road, 'zx', 'zy'))
                    self.assertIn('zy', told.ends)
                    self.assertEqual('zx' in told.ends, road in web.ends)

    def test_on_ends_inner_roads_and_roads_that_meet_themselves(self):
        self.assertEqual(hung(FOUR, 'b', 'x', 'y'), web_of('a b r', 'c d r', 'b x y'))
        self.assertEqual(hung(FOUR, 'r', 'x', 'y'), web_of('a b r', 'c d x', 'r x y'))
        self.assertEqual(hung(LOOP, 'r', 'x', 'y'), web_of('r x s', 'r x y'))
        self.assertEqual(hung(LOOP, 's', 'x', 'y'), web_of('r r s', 's x y'))
        self.assertEqual(hung(THREE, 'b', 'x', 'y'), web_of('a b c', 'x c a', 'b x y'))

    def test_as_many_loads_with_an_end_of_nought(self):
        chance = Random(140)
        for web in LITTLE:
            for road in web.roads:
                other = hung(web, road, 'zx', 'zy')
                for room in (1, 4):
                    ends = even_ends(web, room, chance)
                    told = {**dict(zip(web.ends, ends)), 'zy': 0}
                    told['zx'] = told.get(road)
                    there = tuple(told[end] for end in other.ends)
                    self.assertEqual(count(other, room, there), count(web, room, ends))

    def test_twelve_junctions(self):
        for web in (LONG, Web(row_of(12)), *[web for web in LARGE if len(web) == 12][:5]):
            for road in web.roads[:3]:
                self.assertEqual(len(web), 12)
                with self.assertRaises(Full) as caught:
                    hung(web, road, 'zx', 'zy')
                self.assertEqual([type(caught.exception), caught.exception.value], [Full, 12])
        web = Web(row_of(11))
        self.assertEqual(len(hung(web, 'ra', 'x', 'y')), 12)

    def test_no_road(self):
        for road in NO_ROADS:
            for half, end in (('m', 'n'), ('m', 'm'), (None, 'a')):
                self.refuse(NoRoad, road, hung, FOUR, road, half, end)
                self.refuse(NoRoad, road, hung, LONG, road, half, end)

    def test_several_wrong_at_once(self):
        for road, half, full in product(('ra', 'x'), ('m', 'ra'), (True, False)):
            web = LONG if full else Web(row_of(11))
            if road == 'x':
                self.refuse(NoRoad, road, hung, web, road, half, 'n')
            elif half == 'ra':
                with self.assertRaises(BadNames) as caught:
                    hung(web, road, half, 'n')
                self.assertEqual(caught.exception.value, ('ra', 'n'))
            elif full:
                with self.assertRaises(Full):
                    hung(web, road, half, 'n')
        for first, second in (('m', 'm'), ('a', 'n'), (None, 1)):
            self.refuse(NoInner, 'a', cut, FOUR, 'a', first, second)


class Taken(Case):

    def test_as_the_section_tells(self):
        for web in LARGE:
            for end in web.ends:
                if len(web) > 1:
                    told = taken(web, end)
                    self.assertEqual(told, taken_plainly(web, end))
                    self.assertEqual([told.rounds, len(told)], [web.rounds, len(web) - 1])

    def test_the_name_of_the_road_that_two_become(self):
        self.assertEqual(taken(web_of('a z r', 'c d r'), 'a'), web_of('c d z'))
        self.assertEqual(taken(web_of('a b r', 'c d r'), 'b'), web_of('c d a'))
        self.assertEqual(taken(web_of('s a r', 'b s c', 'd r e'), 'a'), web_of('b r c', 'd r e'))
        self.assertEqual(taken(web_of('s a t', 'b t c', 'd s e'), 'a'), web_of('b s c', 'd s e'))
        self.assertEqual(taken(web_of('x p q', 'q y p'), 'x'), web_of('p y p'))
        self.assertEqual(taken(web_of('z y b', 'o o b'), 'y'), web_of('o o z'))

    def test_what_was_hung_on_is_taken_again(self):
        for web in LARGE:
            if len(web) < 12:
                for road in web.roads:
                    other = hung(web, road, 'zx', 'zy')
                    again = taken(other, 'zy')
                    # An end goes on beyond the new junction; of an inner road's halves the lesser name stays.
                    name = 'zx' if road in web.ends else min(road, 'zx')
                    self.assertEqual(again, called_plainly(web, {road: name}))

    def test_as_many_loads_with_an_end_of_nought(self):
        chance = Random(141)
        for web in LITTLE:
            for end in web.ends:
                if len(web) > 1:
                    other = taken(web, end)
                    for room in (1, 4):
                        ends = even_ends(other, room, chance)
                        told = {**dict(zip(other.ends, ends)), end: 0}
                        there = tuple(told[name] for name in web.ends)
                        self.assertEqual(count(web, room, there), count(other, room, ends))

    def test_no_end(self):
        for end in (*NO_ROADS, 'r'):
            self.refuse(BadEnd, end, taken, FOUR, end)
            self.refuse(BadEnd, end, taken, LONE, end)
            self.refuse(BadEnd, end, taken, LOOP, end)

    def test_the_only_junction(self):
        for web, end in ((LONE, 'a'), (LONE, 'c'), (LOOP, 's'), (DRUM, 'x')):
            self.refuse(Lone, end, taken, web, end)


class Conventions(Case):

    def test_equal_calls_return_equal_results(self):
        for web in (*SMALL, CHAIN, PRISM):
            again = Web(web.text)
            for road in web.inner:
                self.assertEqual(cut(again, road, 'zx', 'zy'), cut(web, road, 'zx', 'zy'))
            for road in web.roads:
                self.assertEqual(hung(again, road, 'zx', 'zy'), hung(web, road, 'zx', 'zy'))
            if len(web.ends) > 1:
                self.assertEqual(joined(again, *web.ends[:2], 'zx'), joined(web, *web.ends[:2], 'zx'))

    def test_nothing_changes_its_arguments(self):
        for web in (FOUR, TREE, CLIP, CHAIN):
            there = Web(web.text)
            for road in web.inner:
                cut(there, road, 'zx', 'zy')
                hung(there, road, 'zx', 'zy')
            joined(there, *web.ends[:2], 'zq')
            taken(there, web.ends[0])
            self.assertEqual([there, there.junctions, there.roads, there.ends, there.inner, there.rounds],
                             [web, web.junctions, web.roads, web.ends, web.inner, web.rounds])

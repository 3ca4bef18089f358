"""Section 5: loads."""

from itertools import combinations, product
from random import Random

from tests.case import Case
from tests.samples import (
    ANY_VALUES, CHAIN, CLIP, DRUM, FOUR, LONE, LONG, LOOP, NO_ROOMS, PAIR, PRISM, RING, SMALL, THREE,
    TREE, WEBS, even_lots, fits_plainly, loads_of, made_loads, made_webs, nested, web_of,
)
from threeroadcars.errors import BadLoad, BadRoads, BadRoom
from threeroadcars.loads import does_fit, is_inner, needed_room, passing, rim, switched
from threeroadcars.webs import Web

MOST = 10 ** 12


class LoadCase(Case):

    def refuse_load(self, web, room, load):
        """All functions refuse what is no load of the web that fits the room."""
        self.assertIs(does_fit(web, room, load), False)
        self.refuse(BadLoad, load, rim, web, room, load)
        self.refuse(BadLoad, load, passing, web, room, load)
        self.refuse(BadLoad, load, is_inner, web, room, load)
        self.refuse(BadLoad, load, switched, web, room, load, ())

    def refuse_load_everywhere(self, web, load):
        """All functions refuse what is no load of the web for any room."""
        for room in (0, 2, 10, MOST):
            self.refuse_load(web, room, load)
        self.refuse(BadLoad, load, needed_room, web, load)

    def take_load(self, web, room, load):
        self.assertIs(does_fit(web, room, load), True)
        self.assertEqual(len(rim(web, room, load)), len(web.ends))
        self.assertEqual(len(passing(web, room, load)), len(web))
        self.assertIn(is_inner(web, room, load), (True, False))
        self.assertEqual(switched(web, room, load, ()), load)
        self.assertLessEqual(needed_room(web, load), room)


class Rooms(LoadCase):

    def test_rooms(self):
        for room in (0, 1, 2, 60, 10 ** 6, MOST - 1, MOST):
            self.take_load(LONE, room, (0, 0, 0))
        for room in (1, 2, MOST):
            self.take_load(LONE, room, (1, 1, 0))

    def test_no_rooms(self):
        for value in NO_ROOMS:
            for web, load in ((LONE, (0, 0, 0)), (LONE, (1, 1, 0)), (LOOP, (2, 2))):
                self.refuse(BadRoom, value, does_fit, web, value, load)
                self.refuse(BadRoom, value, rim, web, value, load)
                self.refuse(BadRoom, value, passing, web, value, load)
                self.refuse(BadRoom, value, is_inner, web, value, load)
                self.refuse(BadRoom, value, switched, web, value, load, ())

    def test_wrong_rooms_come_first(self):
        for room in (-1, MOST + 1, True, None, '', (1,), [], LONE):
            for load in ((0, 0, 0), (1, 1, 1), [0, 0, 0], None, True, LONE):
                self.refuse(BadRoom, room, does_fit, LONE, room, load)
                self.refuse(BadRoom, room, rim, LONE, room, load)
                self.refuse(BadRoom, room, passing, LONE, room, load)
                self.refuse(BadRoom, room, is_inner, LONE, room, load)
                for roads in ((), ('a',), None, ['a', 'b']):
                    self.refuse(BadRoom, room, switched, LONE, room, load, roads)


class Fits(LoadCase):

    def test_just_so_and_just_not(self):
        for load, room in (((2, 2, 2), 3), ((1, 1, 2), 2), ((4, 3, 7), 7), ((1, 1, 0), 1), ((5, 4, 3), 6)):
            self.take_load(LONE, room, load)
            self.refuse_load(LONE, room - 1, load)
            self.assertEqual(needed_room(LONE, load), room)

    def test_one_number_beside_the_other_two(self):
        for a, b, c in ((3, 2, 1), (1, 3, 2), (2, 1, 3), (0, 5, 5), (MOST, MOST, 0)):
            self.take_load(LONE, MOST, (a, b, c))
        for load in ((4, 1, 1), (1, 4, 1), (1, 1, 4), (2, 0, 0), (0, 2, 0), (0, 0, 2), (6, 3, 1)):
            self.refuse_load_everywhere(LONE, load)

    def test_odd_sums(self):
        for load in ((1, 1, 1), (1, 0, 0), (2, 2, 1), (3, 3, 3), (2, 3, 4), (MOST, MOST, 1)):
            self.refuse_load_everywhere(LONE, load)
        self.refuse_load_everywhere(FOUR, (1, 1, 1, 1, 1))
        self.refuse_load_everywhere(FOUR, (1, 1, 1, 2, 2))

    def test_one_junction_alone_fits_not(self):
        fits = (1, 1, 1, 1, 2, 2, 0)
        web = web_of('a b e', 'e f g', 'f c d')
        self.assertEqual(web.roads, ('a', 'b', 'c', 'd', 'e', 'f', 'g'))
        self.take_load(web, 2, fits)
        self.refuse_load(web, 1, fits)
        self.refuse_load_everywhere(web, (1, 1, 1, 1, 2, 0, 0))
        self.refuse_load_everywhere(web, (1, 1, 3, 0, 2, 2, 0))
        self.refuse_load_everywhere(web, (4, 0, 1, 1, 2, 2, 0))
        self.assertEqual(needed_room(web, (5, 5, 0, 0, 0, 0, 0)), 5)
        self.assertEqual(needed_room(web, (0, 0, 5, 5, 0, 0, 0)), 5)
        self.refuse_load(web, 4, (0, 0, 5, 5, 0, 0, 0))
        self.take_load(web, 5, (0, 0, 5, 5, 0, 0, 0))

    def test_below_nought(self):
        for load in ((-1, -1, 0), (-1, 1, 0), (0, -2, 2), (-1, -1, -2), (2, 2, -2), (-2, -2, -2), (1, 1, -2)):
            self.refuse_load_everywhere(LONE, load)
        for load in ((-1, 0), (0, -2), (-2, -2), (1, -2), (-1, -2)):
            self.refuse_load_everywhere(LOOP, load)

    def test_bools_are_no_integers(self):
        for load in ((True, 1, 0), (1, True, 2), (1, 1, False), (True, True, False), (True, True, 2)):
            self.refuse_load_everywhere(LONE, load)
        self.take_load(LONE, 2, (1, 1, 2))

    def test_values_of_other_kinds(self):
        wrong = (
            [1, 1, 2], [0, 0, 0], {0: 1, 1: 1, 2: 2}, '112', (1, 1), (1, 1, 2, 0), (), (0,), (0, 0), (0, 0, 0, 0),
            ('1', 1, 2), ('a', 'b', 'c'), (None, 0, 0), (0, 0, None), ((1, 1, 2),), ((0,), (0,), (0,)), (0, 0, [0]),
            (0, 0, {}), (0, 0, LONE), ([], [], []), (0, nested(29), 0), nested(30), ('a', 1, 'b'),
        )
        for load in wrong + tuple(value for value in ANY_VALUES if value != (1, 2, 3)):
            self.refuse_load_everywhere(LONE, load)
        self.take_load(LONE, 3, (1, 2, 3))

    def test_one_number_for_each_road_not_for_each_word(self):
        self.refuse_load_everywhere(FOUR, (0, 0, 0, 0, 0, 0))
        self.refuse_load_everywhere(FOUR, (0, 0, 0, 0))
        self.refuse_load_everywhere(LOOP, (0, 0, 0))
        self.refuse_load_everywhere(DRUM, (0,))

    def test_great_loads_and_rooms(self):
        half = MOST // 2
        self.take_load(LONE, MOST, (MOST, half, half))
        self.take_load(LONE, MOST, (MOST, MOST, 0))
        self.refuse_load(LONE, MOST, (MOST, MOST, 2))
        self.refuse_load(LONE, MOST, (MOST + 1, MOST, 1))
        self.refuse_load(LONE, MOST, (2 * MOST, MOST, MOST))
        self.refuse_load_everywhere(LONE, (MOST, half, half - 2))
        self.take_load(FOUR, MOST, (half, half, half, half, MOST))
        self.refuse_load(FOUR, MOST - 1, (half, half, half, half, MOST))

    def test_roads_that_meet_themselves_count_twice(self):
        self.assertEqual(loads_of(LOOP, 3), [(0, 0), (1, 0), (1, 2), (2, 0), (2, 2), (3, 0)])
        for load, room in (((2, 2), 3), ((1, 2), 2), ((1, 0), 1), ((5, 4), 7)):
            self.take_load(LOOP, room, load)
            self.refuse_load(LOOP, room - 1, load)
        for load in ((1, 1), (0, 2), (1, 4), (2, 3), (0, 1)):
            self.refuse_load_everywhere(LOOP, load)
        self.assertIs(does_fit(PAIR, 3, (2, 2, 1)), True)
        self.assertIs(does_fit(PAIR, 2, (2, 2, 1)), False)
        self.assertIs(does_fit(PAIR, 3, (1, 2, 1)), True)
        self.assertIs(does_fit(PAIR, 3, (2, 4, 1)), False)

    def test_all_small_loads(self):
        for web in SMALL:
            for room in (0, 1, 2):
                for load in product(range(-1, 4), repeat=len(web.roads)):
                    self.assertIs(does_fit(web, room, load), fits_plainly(web, room, load))

    def test_webs_of_all_sizes(self):
        for web in (*WEBS, *made_webs(50, 12)):
            zeros = (0,) * len(web.roads)
            self.take_load(web, 0, zeros)
            self.refuse_load_everywhere(web, zeros[1:])
            self.refuse_load_everywhere(web, zeros + (0,))
            self.refuse_load_everywhere(web, list(zeros))


class Rim(LoadCase):

    def test_ends_ascending(self):
        web = web_of('z y m', 'm b x')
        self.assertEqual([web.roads, web.ends], [('b', 'm', 'x', 'y', 'z'), ('b', 'x', 'y', 'z')])
        self.assertEqual(rim(web, 9, (1, 3, 4, 5, 2)), (1, 4, 5, 2))
        self.assertEqual(rim(RING, 9, (1, 2, 3, 5)), (1, 5))

    def test_webs_without_ends(self):
        self.assertEqual(rim(THREE, 2, (1, 1, 2)), ())
        self.assertEqual(rim(PAIR, 2, (1, 2, 1)), ())
        self.assertEqual(rim(PRISM, 0, (0,) * 9), ())

    def test_webs_of_one_junction(self):
        self.assertEqual(rim(LONE, 3, (1, 2, 3)), (1, 2, 3))
        self.assertEqual(rim(LOOP, 3, (2, 2)), (2,))
        self.assertEqual(rim(DRUM, 3, (1, 2)), (2,))

    def test_all_small_loads(self):
        for web in SMALL:
            for load in loads_of(web, 2):
                borne = dict(zip(web.roads, load))
                told = rim(web, 2, load)
                self.assertEqual(told, tuple(borne[road] for road in web.ends))
                self.assertIs(type(told), tuple)


class Passing(LoadCase):

    def test_words_as_they_stand(self):
        self.assertEqual(passing(LONE, 9, (4, 3, 5)), ((1, 2, 3),))
        self.assertEqual(passing(web_of('b c a'), 9, (4, 3, 5)), ((2, 3, 1),))
        self.assertEqual(passing(web_of('c b a'), 9, (4, 3, 5)), ((2, 1, 3),))

    def test_junctions_as_they_stand(self):
        self.assertEqual(passing(TREE, 9, (3, 1, 4, 4, 2)), ((1, 0, 2), (1, 3, 1)))
        self.assertEqual(passing(web_of('r c d', 'a b r'), 9, (3, 1, 4, 4, 2)), ((1, 3, 1), (1, 0, 2)))

    def test_roads_that_meet_themselves(self):
        self.assertEqual(passing(LOOP, 9, (5, 4)), ((3, 2, 2),))
        self.assertEqual(passing(DRUM, 9, (5, 4)), ((2, 3, 2),))
        self.assertEqual(passing(web_of('o x o'), 9, (5, 4)), ((2, 2, 3),))

    def test_all_small_loads(self):
        for web in SMALL:
            for load in loads_of(web, 3):
                told = passing(web, 3, load)
                self.assertEqual(len(told), len(web))
                for words, cars in zip(web.junctions, told):
                    self.assertEqual([type(cars), {type(each) for each in cars}], [tuple, {int}])
                    self.assertGreaterEqual(min(cars), 0)
                    self.assertLessEqual(sum(cars), 3)
                    over = (cars[0] + cars[2], cars[0] + cars[1], cars[1] + cars[2])
                    self.assertEqual(over, tuple(load[web.roads.index(road)] for road in words))

    def test_great_numbers(self):
        self.assertEqual(passing(LONE, MOST, (MOST, MOST - 1, 1)), ((MOST - 1, 0, 1),))


class NeededRoom(LoadCase):

    def test_least(self):
        self.assertEqual(needed_room(LONE, (0, 0, 0)), 0)
        self.assertEqual(needed_room(FOUR, (1, 1, 1, 1, 0)), 1)
        self.assertEqual(needed_room(FOUR, (5, 4, 1, 2, 3)), 6)
        self.assertEqual(needed_room(FOUR, (1, 2, 5, 4, 3)), 6)
        self.assertEqual(needed_room(LOOP, (7, 4)), 9)

    def test_above_all_rooms(self):
        self.assertEqual(needed_room(LONE, (MOST, MOST, MOST)), 3 * MOST // 2)
        self.assertEqual(needed_room(LONE, (MOST, MOST, 2)), MOST + 1)
        self.assertEqual(needed_room(LOOP, (MOST, 2)), MOST + 1)
        self.assertEqual(needed_room(LONE, (10 ** 30, 10 ** 30, 0)), 10 ** 30)
        self.refuse(BadLoad, None, needed_room, LONE, None)

    def test_all_small_loads(self):
        for web in SMALL:
            for load in loads_of(web, 3):
                least = min(room for room in range(4) if fits_plainly(web, room, load))
                self.assertEqual(needed_room(web, load), least)
                self.assertIs(type(needed_room(web, load)), int)

    def test_wrong_loads(self):
        for load in ((1, 1, 1), [0, 0, 0], (0, 0), (1, 1, 4), (-1, -1, 0), (True, 1, 0), None, nested(30)):
            self.refuse(BadLoad, load, needed_room, LONE, load)


class Inner(LoadCase):

    def test_both_borders(self):
        self.assertIs(is_inner(LONE, 4, (2, 2, 2)), True)
        self.assertIs(is_inner(LONE, 3, (2, 2, 2)), False)
        self.assertIs(is_inner(LONE, 9, (2, 2, 4)), False)
        self.assertIs(is_inner(LONE, 9, (2, 4, 2)), False)
        self.assertIs(is_inner(LONE, 9, (4, 2, 2)), False)
        self.assertIs(is_inner(LONE, 7, (3, 4, 5)), True)
        self.assertIs(is_inner(LONE, 6, (3, 4, 5)), False)

    def test_noughts(self):
        for room in (0, 1, 4, MOST):
            for web in WEBS:
                self.assertIs(is_inner(web, room, (0,) * len(web.roads)), False)
        self.assertIs(is_inner(LONE, 9, (0, 2, 2)), False)

    def test_one_junction_at_the_border(self):
        self.assertIs(is_inner(FOUR, 9, (2, 2, 2, 2, 2)), True)
        self.assertIs(is_inner(FOUR, 9, (4, 2, 2, 2, 2)), False)
        self.assertIs(is_inner(FOUR, 9, (2, 2, 4, 2, 2)), False)
        self.assertIs(is_inner(FOUR, 4, (3, 3, 2, 2, 2)), False)
        self.assertIs(is_inner(FOUR, 4, (2, 2, 3, 3, 2)), False)
        self.assertIs(is_inner(FOUR, 5, (2, 2, 3, 3, 2)), True)

    def test_roads_that_meet_themselves(self):
        self.assertIs(is_inner(LOOP, 4, (2, 2)), True)
        self.assertIs(is_inner(LOOP, 3, (2, 2)), False)
        self.assertIs(is_inner(LOOP, 9, (1, 2)), False)
        self.assertIs(is_inner(LOOP, 9, (2, 0)), False)
        self.assertIs(is_inner(LOOP, 9, (5, 2)), True)

    def test_inner_loads_are_those_that_fit_with_less(self):
        for web in SMALL:
            for room in (4, 5):
                for load in product(range(2, room + 1), repeat=len(web.roads)):
                    if does_fit(web, room, load):
                        less = tuple(number - 2 for number in load)
                        self.assertIs(is_inner(web, room, load), fits_plainly(web, room - 4, less))


class Switched(LoadCase):

    def test_there_and_back(self):
        for web in SMALL:
            for room in (0, 1, 3):
                for load in loads_of(web, room):
                    for roads in even_lots(web):
                        other = switched(web, room, load, roads)
                        self.assertIs(type(other), tuple)
                        self.assertIs(fits_plainly(web, room, other), True)
                        self.assertEqual(switched(web, room, other, roads), load)
                        self.assertIs(is_inner(web, room, load), is_inner(web, room, other))
                        for road, old, new in zip(web.roads, load, other):
                            self.assertEqual(new, room - old if road in roads else old)

    def test_no_roads(self):
        self.assertEqual(switched(FOUR, 3, (1, 1, 1, 1, 2), ()), (1, 1, 1, 1, 2))

    def test_made_webs(self):
        chance = Random(13)
        for web in made_webs(80, 14, most=4):
            for load in made_loads(web, 7, 5, chance):
                roads = chance.choice(even_lots(web))
                self.assertIs(does_fit(web, 7, load), True)
                other = switched(web, 7, load, roads)
                self.assertIs(does_fit(web, 7, other), True)
                self.assertEqual(switched(web, 7, other, roads), load)
                self.assertIs(is_inner(web, 7, other), is_inner(web, 7, load))

    def test_great_rooms(self):
        self.assertEqual(switched(LONE, MOST, (1, 1, 2), ('a', 'c')), (MOST - 1, 1, MOST - 2))
        told = tuple(MOST if road in ('ea', 'ra') else 0 for road in LONG.roads)
        self.assertEqual(switched(LONG, MOST, (0,) * 25, ('ea', 'ra')), told)

    def test_roads_of_which_a_junction_has_one_or_three(self):
        load = (1, 1, 1, 1, 2)
        for names in ('a', 'r', 'a r', 'a c', 'a b r', 'a b c', 'a b c d r'):
            roads = tuple(names.split())
            self.refuse(BadRoads, roads, switched, FOUR, 3, load, roads)
        roads = ('a', 'b', 'c')
        self.refuse(BadRoads, roads, switched, LONE, 3, (1, 1, 2), roads)

    def test_every_lot_of_roads(self):
        for web in (*SMALL, CHAIN):
            zeros, even = (0,) * len(web.roads), even_lots(web)
            for size in range(len(web.roads) + 1):
                for roads in combinations(web.roads, size):
                    if roads in even:
                        self.assertEqual(
                            switched(web, 2, zeros, roads), tuple(2 if road in roads else 0 for road in web.roads))
                    else:
                        self.refuse(BadRoads, roads, switched, web, 2, zeros, roads)

    def test_roads_that_meet_themselves_count_twice(self):
        self.assertEqual(switched(LOOP, 3, (2, 2), ('r',)), (1, 2))
        for roads in (('s',), ('r', 's')):
            self.refuse(BadRoads, roads, switched, LOOP, 3, (2, 2), roads)
        self.assertEqual(switched(PAIR, 4, (1, 2, 1), ('a', 'c')), (3, 2, 3))
        self.assertEqual(switched(PAIR, 4, (1, 2, 1), ('c',)), (1, 2, 3))
        for roads in (('b',), ('a', 'b'), ('a', 'b', 'c')):
            self.refuse(BadRoads, roads, switched, PAIR, 4, (1, 2, 1), roads)

    def test_wrong_roads(self):
        wrong = (
            ('b', 'a'), ('a', 'a'), ('a', 'a', 'b'), ('a', 'b', 'b'), ('a', 'c', 'b', 'd'), ('r', 'a', 'c'), ['a', 'b'],
            ('a', 'x'), ('a', 'b', 'x'), ('x',), ('x', 'y'), ('',), ('a', 'b', ''), 'ab', '', {'a': 1, 'b': 1},
            (('a', 'b'),), ('a', ['b']), ('a', None), (1, 2), (True, True), (0, 1), (LONE,), ('a', LONE), ({}, []),
            ('A', 'B'), ('a b',), ('a', 'b '), ['a'], nested(30), ('a', nested(29)), ('c', 'd', 'a', 'b'),
        )
        for roads in wrong + tuple(value for value in ANY_VALUES if value != ()):
            self.refuse(BadRoads, roads, switched, FOUR, 3, (1, 1, 1, 1, 2), roads)

    def test_several_wrong_arguments(self):
        for roads in (('a',), None, ['a', 'b']):
            for load in ((1, 1, 1, 1, 1), None, [1, 1, 1, 1, 2], (1, 1, 1, 1), (3, 3, 1, 1, 2)):
                for room in (-1, MOST + 1, None, True):
                    self.refuse(BadRoom, room, switched, FOUR, room, load, roads)
                self.refuse(BadLoad, load, switched, FOUR, 3, load, roads)
            self.refuse(BadRoads, roads, switched, FOUR, 3, (1, 1, 1, 1, 2), roads)


class Conventions(LoadCase):

    def test_sums_of_loads(self):
        chance = Random(15)
        for web in made_webs(60, 16, most=4):
            for one, other in zip(made_loads(web, 3, 4, chance), made_loads(web, 5, 4, chance)):
                both = tuple(a + b for a, b in zip(one, other))
                self.assertIs(does_fit(web, 8, both), True)
                twice = tuple(2 * a for a in one)
                self.assertEqual(needed_room(web, twice), 2 * needed_room(web, one))

    def test_nothing_changes_its_arguments(self):
        web, load, roads = Web(FOUR.text), [1, 1, 1, 1, 2], ['a', 'b']
        does_fit(web, 2, load)
        self.refuse(BadLoad, load, switched, web, 2, load, roads)
        self.refuse(BadRoads, roads, switched, web, 2, tuple(load), roads)
        switched(web, 2, tuple(load), tuple(roads))
        self.assertEqual([load, roads], [[1, 1, 1, 1, 2], ['a', 'b']])
        self.assertEqual([web, web.roads, web.ends, web.inner], [FOUR, FOUR.roads, FOUR.ends, FOUR.inner])
        self.assertEqual([web.junctions, web.rounds], [FOUR.junctions, FOUR.rounds])

    def test_equal_calls_return_equal_results(self):
        for web in (*SMALL, CLIP):
            again = Web(web.text)
            for load in loads_of(web, 2):
                for function in (does_fit, rim, passing, is_inner):
                    self.assertEqual(function(web, 2, load), function(again, 2, load))
                    self.assertEqual(function(web, 2, load), function(web, 2, load))
                self.assertEqual(needed_room(web, load), needed_room(again, load))
                roads = even_lots(web)[-1]
                self.assertEqual(switched(web, 2, load, roads), switched(again, 2, load, roads))

    def test_results_of_does_fit_and_is_inner_are_bools(self):
        for value in (*ANY_VALUES, (0, 0, 0), (2, 2, 2)):
            self.assertIn(does_fit(LONE, 4, value), (True, False))
            self.assertIs(type(does_fit(LONE, 4, value)), bool)
        self.assertIs(type(is_inner(LONE, 4, (2, 2, 2))), bool)
        self.assertIs(type(is_inner(LONE, 4, (0, 0, 0))), bool)

"""Section 6: flips."""

from itertools import combinations, product
from random import Random

from tests.case import Case
from tests.samples import (
    ANY_VALUES, CHAIN, CLIP, DRUM, FOUR, LONE, LONG, LOOP, NO_ROOMS, PAIR, PRISM, RING, SMALL, THREE,
    TREE, WEBS, all_loads, fits_plainly, flippable, flipped_plainly, made_loads, made_webs, nested, web_of,
)
from threeroadcars.errors import BadLoad, BadRoad, BadRoom, BadScript, BadWay
from threeroadcars.flips import beside, carried, flipped, led, led_load
from threeroadcars.webs import Web

MOST = 10 ** 12
FLIPS = [(web, road, way) for web in (*SMALL, CHAIN) for road in flippable(web) for way in (1, 2)]
LARGE = made_webs(150, 21)
MEDIUM = made_webs(40, 22, most=4)
NO_WAYS = (
    0, 3, -1, 4, 10 ** 12, True, False, None, '1', '2', '', (), (1,), (1, 2), [], [1], {}, {1: 1}, LONE, nested(30),
)
NO_ROADS = ANY_VALUES[:-6] + ('', 'x', 'R', 'r ', 'rr', 'a b', 1, ('r',), ['r'], {'r': 1}, (('r', 1),), nested(30))


def line_by_line(web):
    return [sorted(words) for words in web.junctions]


def meets(web):
    return sorted(line_by_line(web))


def number_of(web, load, road):
    return load[web.roads.index(road)]


def with_number(web, load, road, number):
    return tuple(number if name == road else old for name, old in zip(web.roads, load))


def can_bear(web, room, load, road):
    """All numbers that a road can bear if all others are as in load, tried one by one."""
    rows = [with_number(web, load, road, number) for number in range(2 * room + 1)]
    return [number for number, row in enumerate(rows) if fits_plainly(web, room, row)]


def made_script(web, chance, count):
    """A script of flips by chance, and the web to which it leads."""
    script = []
    for _ in range(count):
        roads = flippable(web)
        if roads:
            script.append((chance.choice(roads), chance.choice((1, 2))))
            web = web_of(*flipped_plainly(web, *script[-1]))
    return tuple(script), web


def way_back(web, script):
    """A script that leads back, found by looking who met whom."""
    webs, back = [web], []
    for road, way in script:
        webs.append(web_of(*flipped_plainly(webs[-1], road, way)))
    here = webs.pop()
    for (road, _), goal in zip(reversed(script), reversed(webs)):
        both = {way: web_of(*flipped_plainly(here, road, way)) for way in (1, 2)}
        way = [way for way in (1, 2) if meets(both[way]) == meets(goal)][0]
        back.append((road, way))
        here = both[way]
    return tuple(back)


class Flipped(Case):

    def test_both_ways(self):
        self.assertEqual(flipped(TREE, 'r', 1), web_of('a c r', 'b d r'))
        self.assertEqual(flipped(TREE, 'r', 2), web_of('a d r', 'c b r'))
        self.assertEqual(flipped(web_of('r a b', 'c r d'), 'r', 1), web_of('a c r', 'b d r'))
        self.assertEqual(flipped(web_of('a r b', 'c d r'), 'r', 2), web_of('a d r', 'c b r'))

    def test_words_of_which_some_are_one_road(self):
        self.assertEqual(flipped(CLIP, 'p', 1), web_of('a q p', 'q b p'))
        self.assertEqual(flipped(CLIP, 'p', 2), web_of('a b p', 'q q p'))
        self.assertEqual(flipped(THREE, 'b', 1), web_of('a c b', 'c a b'))
        self.assertEqual(flipped(THREE, 'b', 2), web_of('a a b', 'c c b'))
        self.assertEqual(flipped(PAIR, 'b', 1), web_of('a c b', 'a c b'))
        self.assertEqual(flipped(PAIR, 'b', 2), web_of('a c b', 'c a b'))
        self.assertEqual(flipped(web_of('o o s', 's a b'), 's', 1), web_of('o a s', 'o b s'))
        self.assertEqual(flipped(web_of('o a s', 'o b s'), 'o', 1), web_of('a b o', 's s o'))
        self.assertEqual(flipped(web_of('o a s', 'o b s'), 'o', 2), web_of('a s o', 'b s o'))

    def test_all_other_lines_stay_where_they_stand(self):
        web = web_of('a b x', 'c x y', 'd y z', 'z e f')
        self.assertEqual(flipped(web, 'y', 1), web_of('a b x', 'c d y', 'x z y', 'z e f'))
        self.assertEqual(flipped(web, 'y', 2), web_of('a b x', 'c z y', 'd x y', 'z e f'))
        web = web_of('x a b', 'q c d', 'x q e')
        self.assertEqual(flipped(web, 'x', 1), web_of('a q x', 'q c d', 'b e x'))

    def test_webs_of_up_to_twelve_junctions(self):
        self.assertEqual(max(len(web) for web in LARGE), 12)
        for web in (*WEBS, *LARGE):
            for road, way in product(flippable(web), (1, 2)):
                told = flipped(web, road, way)
                self.assertIsInstance(told, Web)
                self.assertEqual(told, web_of(*flipped_plainly(web, road, way)))
                self.assertEqual([told.roads, told.ends, told.rounds], [web.roads, web.ends, web.rounds])

    def test_the_same_way_again_leads_back(self):
        for web in (*WEBS, *LARGE):
            for road, way in product(flippable(web), (1, 2)):
                back = flipped(flipped(web, road, way), road, way)
                self.assertEqual(line_by_line(back), line_by_line(web))

    def test_two_flips_without_a_common_junction(self):
        seen = 0
        for web in (*WEBS, *LARGE[:60]):
            places = {road: {at for at, words in enumerate(web.junctions) if road in words} for road in flippable(web)}
            for one, other in combinations(places, 2):
                if not places[one] & places[other]:
                    seen += 1
                    for here, there in product((1, 2), repeat=2):
                        told = flipped(flipped(web, one, here), other, there)
                        self.assertEqual(told, flipped(flipped(web, other, there), one, here))
        self.assertGreater(seen, 500)

    def test_no_roads_to_flip(self):
        for value in NO_ROADS:
            for web in (FOUR, LONE, LONG):
                for way in (1, 2, 0, None, nested(30)):
                    self.refuse(BadRoad, value, flipped, web, value, way)

    def test_ends_and_roads_that_meet_themselves(self):
        for web in (*WEBS, *LARGE):
            for road in web.roads:
                if road not in flippable(web):
                    self.refuse(BadRoad, road, flipped, web, road, 1)
                    self.refuse(BadRoad, road, flipped, web, road, 3)
        for web, names in ((LOOP, 'rs'), (DRUM, 'xo'), (PAIR, 'ac'), (FOUR, 'abcd'), (LONE, 'abc'), (RING, 'ps')):
            for road in names:
                self.refuse(BadRoad, road, flipped, web, road, 2)

    def test_no_ways(self):
        for value in NO_WAYS:
            self.refuse(BadWay, value, flipped, FOUR, 'r', value)
            self.refuse(BadWay, value, flipped, PAIR, 'b', value)


class Beside(Case):

    def test_against_trying_all_numbers(self):
        for web in (*SMALL, CHAIN):
            for room in (0, 1, 2, 3):
                for load, road in product(all_loads(web.text, room), flippable(web)):
                    least, greatest = told = beside(web, room, load, road)
                    self.assertEqual([type(told), type(least), type(greatest)], [tuple, int, int])
                    self.assertEqual(list(range(least, greatest + 1, 2)), can_bear(web, room, load, road))

    def test_far_numbers(self):
        half = MOST // 2
        self.assertEqual(beside(FOUR, MOST, (half,) * 4 + (0,), 'r'), (0, MOST))
        self.assertEqual(beside(FOUR, MOST, (half + 1, half, half, half + 1, 1), 'r'), (1, MOST - 1))
        self.assertEqual(beside(FOUR, MOST, (MOST, 3, MOST - 2, 5, MOST - 3), 'r'), (MOST - 3, MOST - 3))
        self.assertEqual(beside(FOUR, MOST, (3, 2, 7, 4, 3), 'r'), (3, 5))
        self.assertEqual(beside(CLIP, MOST, (half, half, half, half), 'p'), (0, MOST))
        self.assertEqual(beside(THREE, MOST, (MOST, MOST - 7, 7), 'b'), (MOST - 7, MOST - 7))

    def test_the_room_counts(self):
        for room, greatest in ((4, 1), (5, 3), (6, 5), (7, 7), (8, 7)):
            self.assertEqual(beside(FOUR, room, (4, 3, 4, 3, 1), 'r'), (1, min(greatest, 2 * room - 7, 7)))

    def test_wrong_arguments(self):
        right = (1, 1, 1, 1, 0)
        for room in NO_ROOMS:
            for load, road in product((right, None, [1, 1, 1, 1, 0]), ('r', 'a', None)):
                self.refuse(BadRoom, room, beside, FOUR, room, load, road)
        for load in (*ANY_VALUES, (1, 1, 1, 1, 1), [1, 1, 1, 1, 0], (1, 1, 1, 1), (3, 3, 0, 0, 0), (True, 1, 1, 1, 0)):
            for road in ('r', 'a', None, nested(30)):
                self.refuse(BadLoad, load, beside, FOUR, 2, load, road)
        for road in (*NO_ROADS, 'a', 'b', 'c', 'd'):
            self.refuse(BadRoad, road, beside, FOUR, 2, right, road)
        self.refuse(BadRoad, 'a', beside, PAIR, 2, (1, 2, 1), 'a')
        self.refuse(BadRoad, 'o', beside, DRUM, 2, (1, 2), 'o')


class Carried(Case):

    def test_all_loads_are_carried_to_all_loads(self):
        for web, road, way in FLIPS:
            other = web_of(*flipped_plainly(web, road, way))
            for room in (0, 1, 2, 3):
                told = [carried(web, room, load, road, way) for load in all_loads(web.text, room)]
                self.assertEqual(sorted(told), sorted(all_loads(other.text, room)))

    def test_made_webs(self):
        for web in MEDIUM:
            for road, way in product(flippable(web), (1, 2)):
                other = web_of(*flipped_plainly(web, road, way))
                told = [carried(web, 2, load, road, way) for load in all_loads(web.text, 2)]
                self.assertEqual(sorted(told), sorted(all_loads(other.text, 2)))

    def test_the_same_place_among_what_it_can_bear(self):
        for web, road, way in FLIPS:
            other = web_of(*flipped_plainly(web, road, way))
            for load in all_loads(web.text, 3):
                told = carried(web, 3, load, road, way)
                self.assertIs(type(told), tuple)
                ahead, behind = can_bear(web, 3, load, road), can_bear(other, 3, load, road)
                self.assertEqual(len(ahead), len(behind))
                number = behind[ahead.index(number_of(web, load, road))]
                self.assertEqual(told, with_number(web, load, road, number))

    def test_there_and_back(self):
        for web, road, way in FLIPS:
            other = flipped(web, road, way)
            for load in all_loads(web.text, 3):
                self.assertEqual(carried(other, 3, carried(web, 3, load, road, way), road, way), load)

    def test_far_rooms(self):
        chance, room = Random(23), 10 ** 12
        for web in MEDIUM:
            for load in made_loads(web, 10, 6, chance):
                far = tuple(number * 10 ** 11 for number in load)
                for road, way in product(flippable(web), (1, 2)):
                    other = flipped(web, road, way)
                    told = carried(web, room, far, road, way)
                    self.assertTrue(fits_plainly(other, room, told))
                    self.assertEqual(carried(other, room, told, road, way), far)
                    self.assertEqual(told, tuple(10 ** 11 * number for number in carried(web, 10, load, road, way)))
        self.assertEqual(carried(FOUR, MOST, (MOST, 1, MOST - 1, 2, MOST - 1), 'r', 1), (MOST, 1, MOST - 1, 2, 1))
        self.assertEqual(carried(FOUR, MOST, (4, MOST, 3, MOST - 1, MOST - 4), 'r', 1), (4, MOST, 3, MOST - 1, 1))

    def test_several_arguments_wrong(self):
        wrong = (None, True, -1, [1], nested(30))
        for room, load, road, way in product((2, *wrong), ((1, 1, 1, 1, 0), *wrong), ('r', *wrong), (2, *wrong[:3])):
            given = (FOUR, room, load, road, way)
            if room != 2:
                self.refuse(BadRoom, room, carried, *given)
            elif load != (1, 1, 1, 1, 0):
                self.refuse(BadLoad, load, carried, *given)
            elif road != 'r':
                self.refuse(BadRoad, road, carried, *given)
            elif way != 2 or way is True:
                self.refuse(BadWay, way, carried, *given)

    def test_wrong_arguments(self):
        load = (1, 1, 1, 1, 2)
        for room in NO_ROOMS:
            self.refuse(BadRoom, room, carried, FOUR, room, load, 'r', 1)
        for wrong in ((1, 1, 1, 1, 1), (1, 1, 1, 1, 4), [1, 1, 1, 1, 2], (1, 1, 1, 1), (2, 2, 2, 2, 2)):
            self.refuse(BadLoad, wrong, carried, FOUR, 2, wrong, 'r', 1)
        for road in (*NO_ROADS, 'a', 'd'):
            self.refuse(BadRoad, road, carried, FOUR, 2, load, road, 1)
        self.refuse(BadRoad, 'c', carried, PAIR, 2, (1, 2, 1), 'c', 1)
        for way in NO_WAYS:
            self.refuse(BadWay, way, carried, FOUR, 2, load, 'r', way)


class Led(Case):

    def test_no_row(self):
        for web in (*WEBS, *LARGE[:30]):
            self.assertEqual(led(web, ()), web)
            load = (0,) * len(web.roads)
            self.assertEqual(led_load(web, 7, load, ()), load)

    def test_longer_scripts(self):
        chance = Random(24)
        for web in (*WEBS, *LARGE):
            script, goal = made_script(web, chance, 12)
            self.assertEqual(led(web, script), goal)
            here = web
            for road, way in script:
                here = flipped(here, road, way)
            self.assertEqual(here, goal)

    def test_loads_of_longer_scripts(self):
        chance = Random(25)
        for web in (*SMALL, CHAIN, *MEDIUM):
            script, goal = made_script(web, chance, 9)
            told = [led_load(web, 2, load, script) for load in all_loads(web.text, 2)]
            self.assertEqual(sorted(told), sorted(all_loads(goal.text, 2)))
            for load in chance.sample(all_loads(web.text, 2), 2):
                here, there = web, load
                for road, way in script:
                    here, there = flipped(here, road, way), carried(here, 2, there, road, way)
                self.assertEqual(led_load(web, 2, load, script), there)

    def test_the_way_back(self):
        chance = Random(26)
        for web in (*WEBS, *LARGE[:60], *MEDIUM):
            script, goal = made_script(web, chance, 8)
            back = way_back(web, script)
            self.assertEqual(meets(led(goal, back)), meets(web))
            if len(web.roads) < 13:
                for load in made_loads(web, 5, 3, chance):
                    there = led_load(web, 5, load, script)
                    self.assertEqual(led_load(goal, 5, there, back), load)
                    self.assertEqual(led_load(web, 5, load, script + back), load)

    def test_far_rooms(self):
        chance = Random(27)
        for web in MEDIUM:
            script, goal = made_script(web, chance, 9)
            for load in made_loads(web, 10, 3, chance):
                far = tuple(number * 10 ** 11 for number in load)
                told = led_load(web, 10 ** 12, far, script)
                self.assertTrue(fits_plainly(goal, 10 ** 12, told))
                self.assertEqual(told, tuple(10 ** 11 * number for number in led_load(web, 10, load, script)))

    def test_no_tuples(self):
        for value in ([], [('r', 1)], {}, {'r': 1}, 'r', '', None, 0, 1, True, False, FOUR, nested(28)[0]):
            self.assertFalse(isinstance(value, tuple))
            self.refuse(BadScript, None, led, FOUR, value)
            self.refuse(BadScript, None, led_load, FOUR, 2, (1, 1, 1, 1, 0), value)

    def test_wrong_rows(self):
        rows = (
            ('r',), ('r', 1, 1), (), ['r', 1], 'r1', 'r', {'r': 1}, {'r': 1, 's': 2}, None, 1, True, FOUR, (1, 'r'),
            ('a', 1), ('x', 1), ('', 1), (None, 1), (FOUR, 1), (('r',), 1), (['r'], 1), ({}, 1), (nested(29), 1),
            ('r', 0), ('r', 3), ('r', True), ('r', None), ('r', '1'), ('r', (1,)), ('r', [1]), ('r', nested(29)),
            (('r', 1), ('r', 1)), [('r', 1)], nested(30), ('r', -1), ('R', 1), ('r ', 1),
        )
        load = (1, 1, 1, 1, 0)
        for row in rows:
            for ahead, behind in product(((), (('r', 1),), (('r', 2), ('r', 1), ('r', 2))), ((), (('r', 1),), (None,))):
                script = ahead + (row,) + behind
                self.refuse(BadScript, len(ahead), led, FOUR, script)
                self.refuse(BadScript, len(ahead), led_load, FOUR, 2, load, script)

    def test_roads_that_cannot_be_flipped_any_more(self):
        ring = web_of('a p q', 'b p q')
        self.assertEqual(led(ring, (('p', 1),)), web_of('a b p', 'q q p'))
        for script, number in (((('p', 1), ('q', 1)), 1), ((('p', 2), ('q', 2), ('p', 2), ('p', 1), ('q', 1)), 4)):
            self.refuse(BadScript, number, led, ring, script)
            self.refuse(BadScript, number, led_load, ring, 2, (1, 1, 0, 1), script)
        self.assertEqual(led(THREE, (('b', 2), ('b', 1))), web_of('a c b', 'a c b'))
        for road in 'ac':
            self.refuse(BadScript, 1, led, THREE, (('b', 2), (road, 1)))
        self.refuse(BadScript, 0, led, PAIR, (('a', 1),))
        self.assertEqual(led(PAIR, (('b', 1), ('a', 1))), web_of('c c a', 'b b a'))

    def test_which_error_comes_first(self):
        for room, load, script in product((2, None, True), ((1, 1, 1, 1, 0), None, (1, 1, 1, 1, 1)), (None, (None,))):
            if room != 2:
                self.refuse(BadRoom, room, led_load, FOUR, room, load, script)
            elif load != (1, 1, 1, 1, 0):
                self.refuse(BadLoad, load, led_load, FOUR, room, load, script)
            else:
                self.refuse(BadScript, None if script is None else 0, led_load, FOUR, room, load, script)


class Conventions(Case):

    def test_nothing_changes_its_arguments(self):
        web, load, script = Web(PRISM.text), [0] * 9, [('a', 1)]
        self.refuse(BadLoad, load, carried, web, 2, load, 'a', 1)
        self.refuse(BadLoad, load, led_load, web, 2, load, script)
        self.refuse(BadScript, None, led, web, script)
        flipped(web, 'a', 1)
        led(web, (('a', 1), ('b', 2)))
        carried(web, 2, (0,) * 9, 'a', 2)
        led_load(web, 2, (0,) * 9, (('a', 1), ('b', 2)))
        self.assertEqual([load, script], [[0] * 9, [('a', 1)]])
        self.assertEqual([web.text, web.junctions, web.roads], [PRISM.text, PRISM.junctions, PRISM.roads])
        self.assertEqual([web.inner, web.ends, web.rounds], [PRISM.inner, PRISM.ends, PRISM.rounds])

    def test_equal_calls_return_equal_results(self):
        for web in LARGE[:40]:
            again = Web(web.text)
            zeros = (0,) * len(web.roads)
            for road in flippable(web):
                self.assertEqual(flipped(web, road, 1), flipped(again, road, 1))
                self.assertEqual(beside(web, 3, zeros, road), beside(again, 3, zeros, road))
                self.assertEqual(carried(web, 3, zeros, road, 2), carried(again, 3, zeros, road, 2))
                self.assertEqual(led(web, ((road, 1), (road, 1))), led(again, ((road, 1), (road, 1))))

    def test_what_was_told_may_be_handed_in_twice_as_great(self):
        for web, road, way in FLIPS:
            for load in all_loads(web.text, 2):
                told = carried(web, 2, load, road, way)
                twice = tuple(2 * number for number in told)
                self.assertEqual(carried(flipped(web, road, way), 4, twice, road, way), tuple(2 * n for n in load))

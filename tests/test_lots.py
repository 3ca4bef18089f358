"""Section 8: a load, or what bars it."""

from itertools import product
from random import Random

from tests.case import Case
from tests.samples import (
    ANY_VALUES, CHAIN, CLIP, DRUM, FOUR, LONE, LONG, LOOP, NO_ROOMS, PAIR, PRISM, RING, SMALL, THREE,
    WEBS, all_loads, bars_plainly, ends_plainly, fits_plainly, loads_by_ends, made_webs, nested,
    odd_lots, row_of, web_of,
)
from threeroadcars.errors import BadEnds, BadNumber, BadRoom, NoRoad
from threeroadcars.leading import led_over
from threeroadcars.lots import borne, least_room, load_with, shows_some_load, some_load
from threeroadcars.webs import Web, bridges

MOST = 10 ** 12
ODD = ('odd',)
LARGE = made_webs(150, 41)
LITTLE = [*SMALL, CHAIN, *made_webs(50, 42, most=3)]
TREES = [web_of('a b c'), FOUR, web_of('a b x', 'x c y', 'y d e'), web_of('a b x', 'c d y', 'e f z', 'x y z'),
         *[Web(row_of(count)) for count in range(2, 13)]]
NO_ENDS = (
    (), (1,), (1, 1), (1, 1, 1, 1, 1), [1, 1, 1, 1], (1, 1, 1, 3), (3, 1, 1, 1), (-1, 1, 1, 1), (1, 1, -1, 1),
    (True, 1, 1, 1), (1, 1, 1, False), (1, 1, 1, None), (1, 1, 1, '1'), ((1, 1, 1, 1),), ('a', 'b', 'c', 'd'),
    (1, 1, 1, [1]), {'a': 1, 'b': 1, 'c': 1, 'd': 1}, '1111', 'abcd', 1, 4, (MOST,) * 4, (1, 1, 1, nested(29)),
    nested(30),
)


def split_plainly(web, told):
    """The junctions in parts that hang together by roads that are not told."""
    parts = [{at} for at in range(len(web))]
    for road in web.inner:
        if road not in told:
            sides = [part for part in parts if any(road in web.junctions[at] for at in part)]
            parts = [part for part in parts if part not in sides] + [set().union(*sides)]
    return parts


def span_plainly(web, room, told, road, at):
    """What a road can bear that leads to a junction behind which there are no rounds; by twos."""
    if road in told:
        return told[road], told[road]
    here = [number for number, words in enumerate(web.junctions) if road in words and number != at][0]
    return beyond_plainly(web, room, told, road, here)


def beyond_plainly(web, room, told, road, here):
    words = list(web.junctions[here])
    words.remove(road)
    (low, high), (least, greatest) = [span_plainly(web, room, told, word, here) for word in words]
    if low > greatest or least > high:
        bottom = max(low - greatest, least - high)
    else:
        bottom = (low - least) % 2
    if high + greatest <= room:
        return bottom, high + greatest
    if low + least >= room:
        return bottom, 2 * room - low - least
    return bottom, room - (room - low - least) % 2


def is_there_plainly(web, room, told):
    """Whether there is a load in which some roads, all ends among them, bear what is told."""
    for part in split_plainly(web, told):
        words = [road for at in part for road in web.junctions[at]]
        numbers = [told[road] for road in words if road in told]
        inner = {road for road in words if road not in told}
        if sum(numbers) % 2:
            return False
        if len(inner) >= len(part):
            continue
        at = [at for at in part if any(road in told for road in web.junctions[at])][0]
        road = [road for road in web.junctions[at] if road in told][0]
        least, greatest = beyond_plainly(web, room, told, road, at)
        if not least <= told[road] <= greatest:
            return False
    return True


def made_ends(web, room, chance):
    """Ends' loads: of all sizes, near the room, near nought, with an even sum more often."""
    ends = []
    for _ in web.ends:
        near = chance.randint(0, min(room, 3))
        ends.append(chance.choice((chance.randint(0, room), room - near, near)))
    if ends and sum(ends) % 2 and chance.random() < 0.9:
        ends[0] += 1 if ends[0] < room else -1
        ends[0] = max(ends[0], 0)
    return tuple(ends)


class Checks(Case):

    def check_load(self, web, room, ends, load):
        self.assertIs(type(load), tuple)
        self.assertTrue(all(type(number) is int for number in load))
        self.assertTrue(fits_plainly(web, room, load))
        self.assertEqual(ends_plainly(web, load), ends)

    def check_told(self, web, room, ends, told, is_there):
        """What some_load tells is right; whether there is a load is known."""
        with self.subTest(web=web.text, room=room, ends=ends, told=told):
            self.assertIs(type(told), tuple)
            self.assertIs(shows_some_load(web, room, ends, told), True)
            self.assertIs(shows_some_load(web, room, ends, ODD), sum(ends) % 2 == 1)
            if sum(ends) % 2:
                self.assertEqual(told, ODD)
            elif is_there:
                self.assertEqual([told[0], len(told)], ['load', 2])
                self.check_load(web, room, ends, told[1])
            else:
                self.assertEqual([told[0], len(told), web.rounds], ['lot', 2, 0])
                self.assertIn(told[1], odd_lots(web))
                self.assertTrue(bars_plainly(web, room, ends, told[1]))


class SomeLoad(Checks):

    def test_against_all_loads(self):
        for web in LITTLE:
            for room in (0, 1, 2, 3):
                loads = loads_by_ends(web.text, room)
                for ends in product(range(room + 1), repeat=len(web.ends)):
                    self.check_told(web, room, ends, some_load(web, room, ends), ends in loads)

    def test_webs_with_rounds_always_have_a_load(self):
        chance = Random(43)
        for web in (*WEBS, *LARGE, CHAIN, PRISM, RING, CLIP, LOOP, DRUM):
            for room in (0, 1, 2, 7, 10 ** 6, MOST - 1, MOST):
                ends = made_ends(web, room, chance)
                if web.rounds:
                    self.check_told(web, room, ends, some_load(web, room, ends), True)

    def test_webs_without_rounds(self):
        chance, seen = Random(44), []
        for web in TREES:
            for room in (0, 1, 2, 3, 7, 60, MOST - 1, MOST):
                for _ in range(12):
                    ends = made_ends(web, room, chance)
                    there = is_there_plainly(web, room, dict(zip(web.ends, ends)))
                    self.check_told(web, room, ends, some_load(web, room, ends), there)
                    seen.append((there, sum(ends) % 2))
        self.assertGreater(min(seen.count((True, 0)), seen.count((False, 0)), seen.count((False, 1))), 50)

    def test_a_load_or_a_lot_that_bars_never_both(self):
        chance = Random(45)
        for web in TREES[:8]:
            for room in (0, 1, 2, 3, 5, MOST):
                for _ in range(15):
                    ends = made_ends(web, room, chance)
                    if sum(ends) % 2 == 0:
                        bars = any(bars_plainly(web, room, ends, lot) for lot in odd_lots(web))
                        self.assertEqual(some_load(web, room, ends)[0], 'lot' if bars else 'load')

    def test_lots_of_one_three_and_five(self):
        self.assertEqual(some_load(LONE, 3, (3, 1, 0)), ('lot', ('a',)))
        self.assertEqual(some_load(LONE, 9, (2, 9, 3)), ('lot', ('b',)))
        self.assertEqual(some_load(LONE, 2, (2, 2, 2)), ('lot', ('a', 'b', 'c')))
        self.assertEqual(some_load(FOUR, 5, (5, 0, 5, 2)), ('lot', ('a', 'c', 'd')))
        five = Web(row_of(3))
        self.assertEqual(five.ends, ('ea', 'eb', 'ec', 'ra', 'rd'))
        self.assertEqual(some_load(five, 3, (3, 3, 2, 3, 3)), ('lot', five.ends))
        self.assertEqual(some_load(five, MOST, (MOST,) * 5), ('lot', five.ends))
        self.assertEqual(some_load(five, MOST, (0, 0, 4, 0, 2)), ('lot', ('ec',)))

    def test_just_so_and_just_not(self):
        for room, ends in ((3, (2, 2, 2)), (2, (2, 1, 1)), (MOST, (MOST, MOST // 2, MOST // 2)), (3, (3, 3, 0))):
            self.assertEqual(some_load(LONE, room, ends), ('load', ends))
        self.assertEqual(some_load(LONE, 2, (2, 2, 2))[0], 'lot')
        self.assertEqual(some_load(LONE, MOST, (MOST, MOST // 2, MOST // 2 - 2))[0], 'lot')
        self.assertEqual(some_load(LONE, MOST, (MOST, MOST, 2))[0], 'lot')

    def test_odd_sums(self):
        for web, ends in ((LONE, (1, 1, 1)), (LOOP, (1,)), (RING, (2, 1)), (FOUR, (0, 0, 0, 1)), (LONE, (MOST, 1, 0))):
            self.assertEqual(some_load(web, MOST, ends), ODD)
            self.assertIs(shows_some_load(web, MOST, ends, ODD), True)

    def test_webs_without_ends(self):
        for web in (THREE, PAIR, PRISM):
            for room in (0, 1, MOST):
                self.check_told(web, room, (), some_load(web, room, ()), True)

    def test_wrong_arguments(self):
        for function, more in ((some_load, ()), (shows_some_load, (ODD,)), (shows_some_load, (None,))):
            for room in NO_ROOMS:
                for ends in ((1, 1, 1, 1), None, (1,)):
                    self.refuse(BadRoom, room, function, FOUR, room, ends, *more)
            for ends in NO_ENDS + tuple(value for value in ANY_VALUES):
                self.refuse(BadEnds, ends, function, FOUR, 2, ends, *more)
        for web in (THREE, PAIR):
            for ends in ((0,), [], None, (0, 0), {}, ''):
                self.refuse(BadEnds, ends, some_load, web, 2, ends)


class ShowsSomeLoad(Checks):

    def test_all_small_loads_and_lots(self):
        for web in LITTLE[:30]:
            for room in (1, 2):
                loads = all_loads(web.text, room)
                for ends in product(range(room + 1), repeat=len(web.ends)):
                    even = sum(ends) % 2 == 0
                    for load in loads:
                        right = even and ends_plainly(web, load) == ends
                        self.assertIs(shows_some_load(web, room, ends, ('load', load)), right)
                    for lot in odd_lots(web):
                        right = even and web.rounds == 0 and bars_plainly(web, room, ends, lot)
                        self.assertIs(shows_some_load(web, room, ends, ('lot', lot)), right)

    def test_values_near_a_load(self):
        load = (1, 1, 1, 1, 2)
        self.assertIs(shows_some_load(FOUR, 2, (1, 1, 1, 1), ('load', load)), True)
        numbers = (-1, 0, 1, 2, 3, 4, True, None, '1', (1,))
        near = [load[:at] + (number,) + load[at + 1:] for at in range(5) for number in numbers]
        for other in near:
            right = other in (load, (1, 1, 1, 1, 0)) and not any(number is True for number in other)
            self.assertIs(shows_some_load(FOUR, 2, (1, 1, 1, 1), ('load', other)), right)
        for value in (('load', list(load)), ['load', load], ('load', load, ()), ('load', *load), ('Load', load), load,
                      ('lot', load), ('load', load[:4]), ('load', load + (0,)), ('load', (load,)), ('load',),
                      (load, 'load')):
            self.assertIs(shows_some_load(FOUR, 2, (1, 1, 1, 1), value), False)
        self.assertIs(shows_some_load(FOUR, 1, (1, 1, 1, 1), ('load', load)), False)
        self.assertIs(shows_some_load(FOUR, 2, (1, 1, 1, 1), ('load', (2, 2, 2, 2, 0))), False)

    def test_values_near_a_lot(self):
        self.assertIs(shows_some_load(FOUR, 2, (2, 2, 2, 0), ('lot', ('a', 'b', 'c'))), True)
        for names in (('a', 'c', 'b'), ('a', 'b'), ('a', 'b', 'c', 'd'), ('a', 'b', 'd'), ['a', 'b', 'c'], 'abc',
                (), ('a',),
                      ('a', 'a', 'b'), ('a', 'b', 'b'), ('a', 'b', 'c', 'c'), ('a', 'b', 'r'), ('a', 'b', 'x'),
                      ('a', 'b', None),
                      ('a', 'b', ['c']), (('a', 'b', 'c'),), ('a', 'b', 1), (1, 2, 3), ('a', 'b', 'c', 'd', 'r'),
                      ('a', 'a', 'a')):
            self.assertIs(shows_some_load(FOUR, 2, (2, 2, 2, 0), ('lot', names)), False)
        for value in (('lot', 'a', 'b', 'c'), ['lot', ('a', 'b', 'c')], ('lot', ('a', 'b', 'c'), ()), ('load',
                ('a', 'b', 'c')),
                      ('lots', ('a', 'b', 'c')), (None, ('a', 'b', 'c')), ('a', 'b', 'c'), ODD, ('lot',), 'lot'):
            self.assertIs(shows_some_load(FOUR, 2, (2, 2, 2, 0), value), False)
        self.assertIs(shows_some_load(FOUR, 3, (2, 2, 2, 0), ('lot', ('a', 'b', 'c'))), False)
        self.assertIs(shows_some_load(FOUR, 3, (3, 1, 0, 0), ('lot', ('a', 'a', 'a'))), False)
        self.assertIs(shows_some_load(FOUR, 3, (3, 1, 0, 0), ('lot', ('a',))), True)

    def test_lots_of_even_numbers_are_never_shown(self):
        for ends, lot in (((4, 4, 1, 1), ('a', 'b')), ((0, 4, 4, 0), ('b', 'c'))):
            self.assertTrue(bars_plainly(FOUR, 3, ends, lot))
            self.assertIs(shows_some_load(FOUR, 4, ends, ('lot', lot)), False)
            self.assertIs(shows_some_load(FOUR, 4, ends, ('lot', ())), False)

    def test_lots_of_webs_with_rounds_are_never_shown(self):
        self.assertIs(shows_some_load(RING, 2, (2, 0), ('lot', ('p',))), False)
        self.assertIs(shows_some_load(LOOP, 2, (2,), ('lot', ('s',))), False)
        self.assertIs(shows_some_load(LOOP, 3, (3,), ('lot', ('s',))), False)

    def test_odd_sums(self):
        for value in (('load', (1, 1, 1)), ('lot', ('a', 'b', 'c')), ('lot', ('a',)), 'odd', ['odd'], ('odd', ()),
                ('Odd',), ()):
            self.assertIs(shows_some_load(LONE, 3, (1, 1, 1), value), False)
        self.assertIs(shows_some_load(LONE, 1, (1, 1, 1), ('lot', ('a', 'b', 'c'))), False)
        self.assertIs(shows_some_load(LONE, 3, (3, 0, 0), ('lot', ('a',))), False)

    def test_values_of_any_kind(self):
        wrong = (('load', nested(29)), ('lot', nested(29)), (nested(29), nested(29)), (FOUR, FOUR), ('load', None),
                ('lot', 1),
                 ('lot', {}), ('load', {}), ('lot', (nested(28),)), ('load', (nested(28),) * 5), ('lot', ([],)),
                 (None,) * 2)
        for value in wrong + ANY_VALUES:
            for room, ends in ((2, (1, 1, 1, 1)), (2, (2, 2, 2, 0)), (2, (1, 0, 0, 0))):
                self.assertIs(shows_some_load(FOUR, room, ends, value), False)


class BorneAndLoadWith(Checks):

    def check_road(self, web, room, ends, road, numbers):
        """Both functions tell just these numbers."""
        step = 2 if road in web.ends or road in bridges(web) else 1
        told = borne(web, room, ends, road)
        with self.subTest(web=web.text, room=room, ends=ends, road=road):
            if not numbers:
                self.assertIsNone(told)
            else:
                self.assertEqual(told, (min(numbers), max(numbers), step))
                self.assertEqual(sorted(numbers), list(range(min(numbers), max(numbers) + 1, step)))
                self.assertEqual([type(told)] + [type(part) for part in told], [tuple, int, int, int])

    def test_borne_against_all_loads(self):
        for web in LITTLE:
            for room in (0, 1, 2, 3):
                loads = loads_by_ends(web.text, room)
                for ends in product(range(room + 1), repeat=len(web.ends)):
                    for at, road in enumerate(web.roads):
                        self.check_road(web, room, ends, road, {load[at] for load in loads.get(ends, ())})

    def test_load_with_against_all_loads(self):
        for web in LITTLE[:25]:
            for room in (0, 1, 2, 3):
                loads = loads_by_ends(web.text, room)
                for ends in product(range(room + 1), repeat=len(web.ends)):
                    for at, road in enumerate(web.roads):
                        numbers = {load[at] for load in loads.get(ends, ())}
                        for number in range(room + 1):
                            told = load_with(web, room, ends, road, number)
                            self.assertEqual(told is not None, number in numbers)
                            if told is not None:
                                self.assertEqual(told[at], number)
                                self.assertIn(told, loads[ends])

    def test_ends_bridges_and_roads_on_rounds(self):
        self.assertEqual(borne(CHAIN, 5, (3, 1), 'a'), (3, 3, 2))
        self.assertEqual(borne(CHAIN, 5, (3, 1), 'b'), (1, 5, 2))
        self.assertEqual(borne(CHAIN, 5, (3, 1), 'c'), (0, 4, 2))
        self.assertEqual(borne(CHAIN, 5, (3, 1), 'd'), (0, 5, 1))
        self.assertEqual(borne(CHAIN, 5, (3, 1), 'e'), (0, 5, 1))
        self.assertEqual(borne(LOOP, 4, (2,), 'r'), (1, 3, 1))
        self.assertEqual(borne(LOOP, 4, (4,), 'r'), (2, 2, 1))
        self.assertEqual(borne(PAIR, 3, (), 'b'), (0, 2, 2))
        self.assertEqual(borne(PAIR, 3, (), 'a'), (0, 3, 1))
        self.assertEqual(borne(THREE, 3, (), 'c'), (0, 3, 1))
        self.assertEqual(borne(RING, MOST, (MOST, MOST), 'q'), (0, MOST, 1))

    def test_none_where_there_is_no_load(self):
        for web, room, ends in ((LONE, 2, (2, 2, 2)), (LONE, 2, (1, 1, 1)), (FOUR, 3, (3, 1, 0, 0)), (LOOP, 3, (3,)),
                                (CHAIN, 3, (0, 3)), (FOUR, MOST, (MOST, MOST, MOST, 0))):
            for road in web.roads:
                self.assertIsNone(borne(web, room, ends, road))
                for number in (0, 1, 2):
                    self.assertIsNone(load_with(web, room, ends, road, number))

    def test_ends_bear_what_is_told_alone(self):
        for number in range(4):
            told = load_with(FOUR, 3, (2, 1, 2, 1), 'a', number)
            self.assertEqual(told is not None, number == 2)

    def test_webs_of_all_sizes_and_far_rooms(self):
        chance = Random(46)
        for web in (*TREES, *WEBS, *LARGE[:100]):
            for room in (3, 60, MOST - 1, MOST):
                ends = made_ends(web, room, chance)
                told = dict(zip(web.ends, ends))
                there = is_there_plainly(web, room, told)
                for road in chance.sample(web.roads, min(len(web.roads), 6)):
                    span = borne(web, room, ends, road)
                    self.assertEqual(span is not None, there)
                    if span is None:
                        continue
                    least, greatest, step = span
                    self.assertEqual(step, 2 if road in web.ends + bridges(web) else 1)
                    for number in {least, greatest, least + step * chance.randint(0, (greatest - least) // step)}:
                        load = load_with(web, room, ends, road, number)
                        self.check_load(web, room, ends, load)
                        self.assertEqual(load[web.roads.index(road)], number)
                    beyond = (least - 2, least - 1, greatest + 1, greatest + 2)
                    for number in [number for number in beyond if 0 <= number <= room]:
                        self.assertIsNone(load_with(web, room, ends, road, number))
                        if road in web.inner:
                            self.assertFalse(is_there_plainly(web, room, {**told, road: number}))
                    if step == 2 and least < greatest:
                        self.assertIsNone(load_with(web, room, ends, road, least + 1))

    def test_what_is_told_is_a_load_of_other_webs_led_over(self):
        other = web_of('a c s', 's b d')
        for number in (0, 2):
            told = load_with(FOUR, 2, (1, 1, 1, 1), 'r', number)
            self.check_load(other, 2, (1, 1, 1, 1), led_over(FOUR, other, 2, told))

    def test_several_arguments_wrong(self):
        right, wrong = (2, (1, 1, 1, 1), 'r', 0), (None, True, -1, [1], nested(30), 'x')
        for at, error in enumerate((BadRoom, BadEnds, NoRoad, BadNumber)):
            for value in wrong:
                for rest in product(*[(part, None, 3) for part in right[at + 1:]]):
                    given = right[:at] + (value,) + rest
                    self.refuse(error, value, load_with, FOUR, *given)
                    if at < 3:
                        self.refuse(error, value, borne, FOUR, *given[:3])

    def test_wrong_arguments(self):
        for room in NO_ROOMS:
            self.refuse(BadRoom, room, borne, FOUR, room, (0, 0, 0, 0), 'r')
            self.refuse(BadRoom, room, load_with, FOUR, room, (0, 0, 0, 0), 'r', 0)
        for ends in NO_ENDS:
            self.refuse(BadEnds, ends, borne, FOUR, 2, ends, 'r')
            self.refuse(BadEnds, ends, load_with, FOUR, 2, ends, 'r', 0)
        for ends in ((2, 2, 2, 0), (1, 1, 1, 1), (1, 0, 0, 0)):
            for road in (*ANY_VALUES[:-6], 'x', '', 'R', 'rr', ('r',), 'a b', nested(30)):
                self.refuse(NoRoad, road, borne, FOUR, 2, ends, road)
                self.refuse(NoRoad, road, load_with, FOUR, 2, ends, road, 0)
            for number in (-1, 3, 10 ** 12, True, False, None, '0', '', (), (0,), [0], {}, LONE, nested(30)):
                self.refuse(BadNumber, number, load_with, FOUR, 2, ends, 'r', number)
                self.refuse(BadNumber, number, load_with, FOUR, 2, ends, 'a', number)


class LeastRoom(Checks):

    def test_against_trying_rooms(self):
        for web in LITTLE:
            if len(web.ends) > 4:
                continue
            for ends in product(range(4), repeat=len(web.ends)):
                told = least_room(web, ends)
                if sum(ends) % 2:
                    self.assertEqual(told, ODD)
                    continue
                rooms = [room for room in range(8) if is_there_plainly(web, room, dict(zip(web.ends, ends))) and
                         room >= max(ends, default=0)]
                if rooms:
                    self.assertEqual(told, ('room', rooms[0]))
                    self.assertEqual(some_load(web, told[1], ends)[0], 'load')
                    if rooms[0] > max(ends, default=0):
                        self.assertEqual(some_load(web, rooms[0] - 1, ends)[0], 'lot')
                else:
                    end = web.ends[ends.index(max(ends))]
                    self.assertEqual([told, web.rounds], [('never', end), 0])
                    self.assertGreater(2 * max(ends), sum(ends))

    def test_small_rooms_against_all_loads(self):
        for web in LITTLE:
            for room in (1, 2, 3):
                for ends in loads_by_ends(web.text, room):
                    word, least = least_room(web, ends)
                    self.assertEqual(word, 'room')
                    self.assertIs(ends in loads_by_ends(web.text, least), True)
                    self.assertIs(least > 0 and ends in loads_by_ends(web.text, least - 1), False)

    def test_rounded_up(self):
        five = Web(row_of(3))
        self.assertEqual(least_room(LONE, (1, 1, 2)), ('room', 2))
        self.assertEqual(least_room(LONE, (2, 2, 2)), ('room', 3))
        self.assertEqual(least_room(LONE, (3, 3, 4)), ('room', 5))
        self.assertEqual(least_room(five, (2, 2, 2, 2, 2)), ('room', 3))
        self.assertEqual(least_room(five, (4, 4, 4, 4, 4)), ('room', 5))
        self.assertEqual(least_room(five, (3, 3, 3, 3, 4)), ('room', 4))
        self.assertEqual(least_room(five, (8, 8, 8, 0, 0)), ('room', 12))

    def test_far_loads_and_rooms_above_all_others(self):
        self.assertEqual(least_room(LONE, (MOST, MOST, MOST)), ('room', 3 * MOST // 2))
        self.assertEqual(least_room(LONE, (MOST, MOST, 0)), ('room', MOST))
        self.assertEqual(least_room(LONE, (MOST, 1, 1)), ('never', 'a'))
        self.assertEqual(least_room(LONG, (MOST,) * 14), ('room', MOST))
        self.assertEqual(least_room(Web(row_of(3)), (MOST,) * 5), ('room', 5 * MOST // 4))
        self.assertEqual(least_room(RING, (MOST, MOST)), ('room', MOST))
        self.assertEqual(least_room(LOOP, (MOST,)), ('room', MOST))

    def test_far_loads_against_a_load_and_a_lot(self):
        chance, above = Random(47), 0
        for web in (*TREES, *LARGE):
            ends = made_ends(web, 10 ** 11, chance)
            told = least_room(web, ends)
            if told[0] == 'room':
                self.assertEqual(some_load(web, told[1], ends)[0], 'load')
                if told[1] > max(ends, default=0):
                    above += 1
                    self.assertEqual(some_load(web, told[1] - 1, ends)[0], 'lot')
            elif told[0] == 'never':
                self.assertEqual(some_load(web, MOST, ends)[0], 'lot')
            else:
                self.assertEqual([told, sum(ends) % 2], [ODD, 1])
        self.assertGreater(above, 3)

    def test_odd_comes_ahead_of_never(self):
        self.assertEqual(least_room(LONE, (3, 0, 0)), ODD)
        self.assertEqual(least_room(LOOP, (1,)), ODD)
        self.assertEqual(least_room(LONE, (4, 0, 0)), ('never', 'a'))
        self.assertEqual(least_room(LOOP, (4,)), ('room', 4))

    def test_no_ends_and_noughts(self):
        for web in (THREE, PAIR, PRISM):
            self.assertEqual(least_room(web, ()), ('room', 0))
        for web in WEBS:
            self.assertEqual(least_room(web, (0,) * len(web.ends)), ('room', 0))

    def test_wrong_ends(self):
        for ends in NO_ENDS:
            if ends not in ((1, 1, 1, 3), (3, 1, 1, 1), (MOST,) * 4):
                self.refuse(BadEnds, ends, least_room, FOUR, ends)
        for ends in ((MOST + 1, 0, 1), (0, -2, 0), (MOST, MOST, MOST + 2), [MOST] * 3, (0, 0), None):
            self.refuse(BadEnds, ends, least_room, LONE, ends)


class Conventions(Checks):

    def test_equal_calls_return_equal_results(self):
        chance = Random(48)
        for web in LARGE[:60]:
            again, ends = Web(web.text), made_ends(web, 60, chance)
            self.assertEqual(some_load(web, 60, ends), some_load(again, 60, ends))
            self.assertEqual(least_room(web, ends), least_room(again, ends))
            for road in web.roads:
                self.assertEqual(borne(web, 60, ends, road), borne(again, 60, ends, road))
                self.assertEqual(load_with(web, 60, ends, road, 7), load_with(again, 60, ends, road, 7))

    def test_nothing_changes_its_arguments(self):
        web, ends, value = Web(FOUR.text), [1, 1, 1, 1], ['load', [1, 1, 1, 1, 0]]
        self.refuse(BadEnds, ends, some_load, web, 2, ends)
        self.refuse(BadEnds, ends, least_room, web, ends)
        self.assertIs(shows_some_load(web, 2, tuple(ends), value), False)
        load_with(web, 2, (1, 1, 1, 1), 'r', 2)
        self.assertEqual([ends, value], [[1, 1, 1, 1], ['load', [1, 1, 1, 1, 0]]])
        self.assertEqual([web, web.junctions, web.roads, web.ends], [FOUR, FOUR.junctions, FOUR.roads, FOUR.ends])

    def test_what_was_told_twice_as_great_is_shown(self):
        for web in LITTLE[:30]:
            for ends in product(range(3), repeat=len(web.ends)):
                told = some_load(web, 2, ends)
                twice = tuple(2 * number for number in ends)
                if told[0] == 'load':
                    self.assertIs(shows_some_load(web, 4, twice, ('load',
                            tuple(2 * number for number in told[1]))), True)
                if told[0] == 'lot':
                    self.assertIs(shows_some_load(web, 4, twice, told), True)
                    self.assertEqual(some_load(web, 4, twice)[0], 'lot')

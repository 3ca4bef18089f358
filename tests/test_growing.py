"""Section 11: all sizes."""

from fractions import Fraction
from itertools import product
from math import comb, gcd
from random import Random

from tests.case import Case
from tests.samples import (
    ANY_VALUES, CHAIN, CLIP, DRUM, FOUR, LONE, LONG, LOOP, NO_ROOMS, PAIR, PRISM, RING, SMALL, THREE, TREE, WEBS,
    all_loads, ends_plainly, even_ends, fits_plainly, loads_by_ends, made_trees, made_webs, nested, odd_lots,
    pairs_of_a_kind, row_of, web_of,
)
from threeroadcars.counting import count
from threeroadcars.errors import BadEnds, BadRoom, BadTimes, OddEnds
from threeroadcars.growing import ever_inner, grown, growth, inner_count, shows_ever_inner
from threeroadcars.loads import is_inner
from threeroadcars.webs import Web

FAR = 10 ** 6
LITTLE = [*SMALL, CHAIN, *made_webs(25, 81, most=3)]
TREES = [LONE, FOUR, TREE, *made_trees(25, 82, most=4)]
ROUND = [web for web in (*WEBS, *made_webs(80, 83, most=5)) if web.rounds in (1, 2)]
NO_TIMES = (
    10 ** 9 + 1, -10 ** 9 - 1, 10 ** 12, True, False, None, '', '1', 'n', (), (1,), [], [1], {}, {1: 1}, LONE,
    nested(30),
)
NO_ENDS = (
    *ANY_VALUES, (1, 1, 1), (1,) * 5, [1, 1, 1, 1], (1, 1, 1, -1), (1, 1, 1, 7), (True, 1, 1, 1), (1, 1, None, 1),
    (1, 1, '1', 1), ((1, 1, 1, 1),),
)


def worth(told, n):
    return sum(Fraction(top, bottom) * n ** power for power, (top, bottom) in enumerate(told))


def is_inner_plainly(web, room, load):
    """At no junction one number is the other two together, at none all are twice the room."""
    numbers = [sorted(load[web.roads.index(road)] for road in words) for words in web.junctions]
    return all(c != a + b and a + b + c != 2 * room for a, b, c in numbers)


def inner_plainly(web, room, ends):
    return [load for load in loads_by_ends(web.text, room).get(ends, ()) if is_inner_plainly(web, room, load)]


def times(n, numbers):
    return tuple(n * number for number in numbers)


def is_full_plainly(web, room, ends, lot):
    inside = sum(load for name, load in zip(web.ends, ends) if name in lot)
    return inside - (sum(ends) - inside) >= (len(lot) - 1) * room


class Growth(Case):

    def check_form(self, told):
        self.assertIs(type(told), tuple)
        for part in told:
            self.assertEqual([type(part), len(part), [type(each) for each in part]], [tuple, 2, [int, int]])
            self.assertGreaterEqual(part[1], 1)
            self.assertEqual(gcd(*part), 1)
        if told:
            self.assertNotEqual(told[-1][0], 0)

    def check_worths(self, web, room, ends, times_told):
        with self.subTest(web=web.text, room=room, ends=ends):
            told = growth(web, room, ends)
            self.check_form(told)
            for n in times_told:
                many = count(web, n * room, times(n, ends))
                self.assertEqual(worth(told, n), many)
                self.assertEqual(grown(web, room, ends, n), many)
                self.assertEqual(told == (), many == 0)
            self.assertEqual(worth(told, 0), int(told != ()))
            self.assertEqual(grown(web, room, ends, 0), int(told != ()))

    def test_webs_without_rounds(self):
        chance = Random(84)
        for web in TREES:
            self.assertLessEqual(len(web.ends), 6)
            for room in (0, 1, 2, 3, 7, 1000, FAR - 1, FAR):
                for _ in range(3):
                    self.check_worths(web, room, even_ends(web, room, chance), range(1, len(web.inner) + 5))

    def test_far_times_of_webs_without_rounds(self):
        chance = Random(85)
        for web in TREES:
            self.check_worths(web, 1000, even_ends(web, 1000, chance), (17, 10 ** 5, 10 ** 9))
            self.check_worths(web, FAR, even_ends(web, FAR, chance), (19, 10 ** 6 - 1, 10 ** 6))

    def test_webs_with_one_and_two_rounds(self):
        chance = Random(86)
        for web in ROUND:
            for room in range(7):
                for _ in range(2):
                    least = (len(web.inner) + 3) if room * (len(web.inner) + 3) <= 60 else 60 // room
                    self.check_worths(web, room, even_ends(web, room, chance), range(1, least + 1))
        self.assertEqual({web.rounds for web in ROUND}, {1, 2})

    def test_more_rounds_and_more_ends(self):
        chance = Random(87)
        webs = [web for web in made_webs(60, 88) if web.rounds > 2 or len(web.ends) > 8]
        for web in (PRISM, LONG, *webs):
            for room in (1, 2, 3):
                self.check_worths(web, room, even_ends(web, room, chance), (1, 2, 3, 7, 11, 19, 20))
        self.assertGreater(len(webs), 20)

    def test_all_small_ends(self):
        for web in LITTLE:
            for room in (1, 2):
                for ends in product(range(room + 1), repeat=len(web.ends)):
                    if sum(ends) % 2 == 0:
                        self.check_worths(web, room, ends, (1, 2, 3, 5))
                        self.assertEqual(growth(web, room, ends) == (), ends not in loads_by_ends(web.text, room))

    def test_webs_of_the_same_kind(self):
        chance = Random(89)
        for one, other in pairs_of_a_kind(60, 90):
            room = chance.choice((1, 2, 6) if one.rounds else (1, 6, 1000))
            ends = even_ends(one, room, chance)
            self.assertEqual(growth(one, room, ends), growth(other, room, ends))
            self.assertEqual(grown(one, room, ends, -7), grown(other, room, ends, -7))
            self.assertEqual(inner_count(one, room, ends), inner_count(other, room, ends))

    def test_told_polynomials(self):
        self.assertEqual(growth(LONE, 0, (0, 0, 0)), ((1, 1),))
        self.assertEqual(growth(LONE, FAR, (FAR, FAR // 2, FAR // 2)), ((1, 1),))
        self.assertEqual(growth(LONE, FAR, (FAR, FAR // 2, FAR // 2 - 2)), ())
        self.assertEqual(growth(FOUR, FAR, (FAR // 2,) * 4), ((1, 1), (FAR // 2, 1)))
        self.assertEqual(growth(THREE, 6, ()), ((1, 1), (11, 1), (36, 1), (36, 1)))
        self.assertEqual(growth(PAIR, 1, ()), ((1, 1), (11, 6), (1, 1), (1, 6)))
        self.assertEqual(growth(LOOP, 5, (2,)), ((1, 1), (3, 1)))
        self.assertEqual(growth(LOOP, 6, (6,)), ((1, 1),))
        for web in WEBS:
            self.assertEqual(growth(web, 0, (0,) * len(web.ends)), ((1, 1),))
            self.assertEqual(grown(web, 0, (0,) * len(web.ends), -10 ** 9), 1)

    def test_no_load_at_any_n(self):
        for web, room, ends in ((LONE, 2, (2, 2, 2)), (LONE, FAR, (FAR, FAR, 2)), (FOUR, 3, (3, 1, 0, 0)),
                                (Web(row_of(3)), FAR, (FAR,) * 4 + (FAR - 2,))):
            self.assertEqual(growth(web, room, ends), ())
            for n in (1, 0, -1, 10 ** 9, -10 ** 9):
                self.assertEqual(grown(web, room, ends, n), 0)

    def test_twelve_junctions_and_far_rooms(self):
        chance = Random(91)
        for web in (LONG, *[web for web in made_trees(60, 92) if len(web.ends) > 11][:5]):
            ends = tuple(4 * FAR // 9 + 2 * chance.randint(0, 9999) for _ in web.ends)
            told = growth(web, FAR, ends)
            self.check_form(told)
            self.assertEqual(len(told), len(web.inner) + 1)
            self.assertEqual([worth(told, 0), worth(told, 1)], [1, grown(web, FAR, ends, 1)])
            sign = (-1) ** (len(web.ends) - 3)
            self.assertEqual(worth(told, -1), sign * inner_count(web, FAR, ends))


class Grown(Case):

    def test_farthest_times(self):
        far = 10 ** 9
        self.assertEqual([grown(FOUR, 2, (1, 1, 1, 1), n) for n in (far, -far)], [far + 1, 1 - far])
        for n in (far, far - 1, -far, 12345):
            self.assertEqual(grown(THREE, 1, (), n), (n + 1) * (n + 2) * (n + 3) // 6)
            self.assertEqual(grown(THREE, 6, (), n), (6 * n + 1) * (6 * n + 2) * (6 * n + 3) // 6)
        for web in (FOUR, RING, CHAIN, PRISM, LONG, *ROUND[:10]):
            ends = (2,) * len(web.ends)
            told = growth(web, 4, ends)
            for n in (far, -far):
                self.assertEqual(grown(web, 4, ends, n), worth(told, n))
                self.assertIs(type(grown(web, 4, ends, n)), int)

    def test_inner_loads_at_minus_n(self):
        seen = []
        for web in LITTLE:
            for room in (1, 2, 3):
                for ends in product(range(room + 1), repeat=len(web.ends)):
                    if sum(ends) % 2 == 0 and ever_inner(web, room, ends)[0] == 'inner':
                        turned = -1 if (3 * web.rounds - 3 + len(web.ends)) % 2 else 1
                        for n in range(1, 60 // room + 1 if web.rounds == 0 else 6 // room + 1):
                            inner = inner_count(web, n * room, times(n, ends))
                            self.assertEqual(grown(web, room, ends, -n), turned * inner)
                            seen.append((turned, inner > 0))
        self.assertGreater(min(seen.count((turned, there)) for turned in (1, -1) for there in (True, False)), 3)

    def test_minus_n_of_far_rooms_without_rounds(self):
        chance, seen = Random(93), 0
        for web in TREES:
            ends = even_ends(web, 1000, chance, least=1)
            if ever_inner(web, 1000, ends)[0] == 'inner':
                seen += 1
                turned = -1 if (len(web.ends) - 3) % 2 else 1
                for n in (1, 2, 3, 7, 1000):
                    self.assertEqual(grown(web, 1000, ends, -n), turned * inner_count(web, n * 1000, times(n, ends)))
        self.assertGreater(seen, 5)

    def test_wrong_times(self):
        for n in NO_TIMES:
            for web, room, ends in ((FOUR, 2, (1, 1, 1, 1)), (FOUR, 2, (2, 0, 0, 0)), (THREE, 6, ()), (LONE, FAR,
                                    (0, 0, 0))):
                self.refuse(BadTimes, n, grown, web, room, ends, n)


class InnerCount(Case):

    def test_against_all_loads(self):
        for web in LITTLE:
            for room in range(7 if len(web.roads) < 6 else 5):
                all_of_them = product(range(room + 1), repeat=len(web.ends))
                for ends in all_of_them if len(web.ends) < 4 else list(all_of_them)[::11]:
                    told = inner_count(web, room, ends)
                    self.assertEqual(told, len(inner_plainly(web, room, ends)))
                    self.assertIs(type(told), int)

    def test_against_is_inner(self):
        for web in (FOUR, RING, THREE, LOOP):
            for room in (4, 5, 6):
                for ends, loads in loads_by_ends(web.text, room).items():
                    self.assertEqual(inner_count(web, room, ends), sum(is_inner(web, room, load) for load in loads))

    def test_far_rooms(self):
        self.assertEqual(inner_count(FOUR, FAR, (FAR // 2,) * 4), FAR // 2 - 1)
        self.assertEqual(inner_count(LONE, FAR, (4, 4, 4)), 1)
        self.assertEqual(inner_count(LONE, FAR, (4, 4, 8)), 0)
        self.assertEqual(inner_count(LONE, FAR, (4, 4, 6)), 1)
        self.assertEqual(inner_count(LONE, FAR, (FAR - 2, FAR // 2, FAR // 2)), 1)
        self.assertEqual(inner_count(LONE, FAR, (FAR - 2, FAR // 2, FAR // 2 + 2)), 0)
        chance = Random(94)
        for web in TREES:
            for room in (1000, FAR):
                ends = even_ends(web, room, chance, least=2)
                shrunk = tuple(load - 2 for load in ends)
                self.assertEqual(inner_count(web, room, ends), count(web, room - 4, shrunk)
                                 if all(0 <= load <= room - 4 for load in shrunk) else 0)

    def test_ends_of_nought_and_of_the_room(self):
        for ends in ((0, 3, 3, 2), (6, 3, 3, 2), (0, 0, 0, 0), (6, 6, 6, 6), (0, 6, 2, 2), (1, 3, 3, 3), (5, 3, 3, 3)):
            self.assertEqual(inner_count(FOUR, 6, ends), 0)
        self.assertEqual(inner_count(FOUR, 6, (3, 3, 3, 3)), 2)
        for room in range(4):
            self.assertEqual(inner_count(THREE, room, ()), 0)
        self.assertEqual([inner_count(THREE, room, ()) for room in (4, 5, 6)], [1, 4, 10])

    def test_odd_sums(self):
        for web, room, ends in ((LONE, 3, (1, 1, 1)), (LOOP, 6, (3,)), (FOUR, FAR, (3, 4, 4, 4)), (RING, 6, (3, 4))):
            self.assertEqual(inner_count(web, room, ends), 0)


class EverInner(Case):

    def check_told(self, web, room, ends, told):
        """What ever_inner tells is right."""
        with self.subTest(web=web.text, room=room, ends=ends, told=told):
            self.assertIs(type(told), tuple)
            self.assertIs(shows_ever_inner(web, room, ends, told), True)
            if told[0] == 'inner':
                _, n, load = told
                self.assertEqual([type(n), type(load)], [int, tuple])
                self.assertGreaterEqual(n, 1)
                self.assertTrue(fits_plainly(web, n * room, load))
                self.assertTrue(is_inner_plainly(web, n * room, load))
                self.assertEqual(ends_plainly(web, load), times(n, ends))
                self.assertEqual({type(number) for number in load}, {int})
            elif told[0] == 'room':
                self.assertEqual([told, room, web.ends], [('room',), 0, ()])
            elif told[0] == 'end':
                self.assertEqual(len(told), 2)
                self.assertIn(ends[web.ends.index(told[1])], (0, room))
            else:
                self.assertEqual([told[0], len(told), web.rounds], ['lot', 2, 0])
                self.assertIn(told[1], odd_lots(web))
                self.assertTrue(is_full_plainly(web, room, ends, told[1]))

    def others(self, web, room, ends):
        """All values that are no inner load, and whether they are right."""
        values = [(('room',), room == 0 and not ends)]
        for end, load in zip(web.ends, ends):
            values.append((('end', end), load in (0, room)))
        for lot in odd_lots(web):
            values.append((('lot', lot), web.rounds == 0 and is_full_plainly(web, room, ends, lot)))
        return values

    def test_small_webs_against_all_loads(self):
        seen = []
        for web in [web for web in LITTLE if len(web.ends) < 5]:
            for room in range(4):
                for ends in product(range(room + 1), repeat=len(web.ends)):
                    if sum(ends) % 2:
                        continue
                    told = ever_inner(web, room, ends)
                    self.check_told(web, room, ends, told)
                    others = self.others(web, room, ends)
                    self.assertEqual(told[0] == 'inner', not any(right for _, right in others))
                    for value, right in others:
                        self.assertIs(shows_ever_inner(web, room, ends, value), right)
                    if len(web.roads) < 6:
                        for n in range(1, 5 - room + 1):
                            for load in loads_by_ends(web.text, n * room).get(times(n, ends), ()):
                                right = is_inner_plainly(web, n * room, load)
                                self.assertIs(shows_ever_inner(web, room, ends, ('inner', n, load)), right)
                                self.assertTrue(told[0] == 'inner' or not right)
                    seen.append(told[0])
        self.assertEqual(set(seen), {'inner', 'room', 'end', 'lot'})

    def test_greater_webs_and_far_rooms(self):
        chance, seen = Random(95), []
        for web in (*WEBS, *made_trees(40, 96), *made_webs(40, 97)):
            for room in (2, 3, 6, *([7, 60, FAR] if web.rounds == 0 else [])):
                ends = even_ends(web, room, chance, least=1)
                told = ever_inner(web, room, ends)
                self.check_told(web, room, ends, told)
                if len(web.ends) < 9:
                    others = self.others(web, room, ends)
                    self.assertEqual(told[0] == 'inner', not any(right for _, right in others))
                seen.append(told[0])
        self.assertGreater(min(seen.count(word) for word in ('inner', 'end', 'lot')), 15)

    def test_just_below_a_full_lot(self):
        """Lots that leave two cars: the more ends, the greater n."""
        for size in range(1, 13):
            web = Web(row_of(size))
            ends = (1,) * len(web.ends) if size % 2 == 0 else (1,) * (len(web.ends) - 1) + (2,)
            for room in (3, 4, 1000):
                self.check_told(web, room, ends, ever_inner(web, room, ends))
                self.assertEqual(ever_inner(web, room, ends)[0], 'lot' if size == 1 else 'inner')
            many = len(web.ends) if len(web.ends) % 2 else len(web.ends) - 1
            room = 100
            lot_ends = [room - 2] * many + [1] * (len(web.ends) - many)
            lot_ends[0] = room - 2
            if sum(lot_ends) % 2:
                lot_ends[-1] += 1
            self.check_told(web, room, tuple(lot_ends), ever_inner(web, room, tuple(lot_ends)))

    def test_lots_just_full_and_above(self):
        for ends, room, lot in (((1, 1, 1, 3), 4, ('d',)), ((1, 2, 1, 6), 7, ('d',)), ((4, 4, 4, 2), 5, ('a', 'b', 'c')),
                                ((3, 3, 3, 1), 4, ('a', 'b', 'c')), ((FAR - 1, FAR - 1, FAR - 1, 1), FAR, ('a', 'b', 'c'))):
            self.assertEqual(ever_inner(FOUR, room, ends), ('lot', lot))
            self.assertIs(shows_ever_inner(FOUR, room, ends, ('lot', lot)), True)
        self.assertEqual(ever_inner(FOUR, FAR, (FAR - 1, FAR - 1, 3, 3))[0], 'inner')
        self.assertEqual(ever_inner(FOUR, FAR, (FAR - 3, 1, FAR - 3, 1))[0], 'inner')

    def test_rooms_and_ends(self):
        self.assertEqual(ever_inner(THREE, 0, ()), ('room',))
        self.assertEqual(ever_inner(LOOP, 0, (0,)), ('end', 's'))
        self.assertEqual(ever_inner(LOOP, 6, (6,)), ('end', 's'))
        self.assertEqual(ever_inner(FOUR, 4, (2, 0, 2, 2)), ('end', 'b'))
        self.assertIn(ever_inner(FOUR, 4, (4, 0, 2, 2)), (('end', 'a'), ('end', 'b')))
        for value in (('end', 'a'), ('end', 'b')):
            self.assertIs(shows_ever_inner(FOUR, 4, (4, 0, 2, 2), value), True)
        self.assertIs(shows_ever_inner(FOUR, 4, (4, 0, 2, 2), ('end', 'c')), False)
        self.assertIs(shows_ever_inner(LOOP, 0, (0,), ('room',)), False)
        self.assertIs(shows_ever_inner(THREE, 1, (), ('room',)), False)
        self.assertEqual(ever_inner(THREE, 1, ())[0], 'inner')
        self.assertEqual(ever_inner(PAIR, 6, ())[0], 'inner')

    def test_other_n_than_the_told_one(self):
        for web, room, ends in ((FOUR, 2, (1, 1, 1, 1)), (LOOP, 4, (2,)), (THREE, 1, ()), (FOUR, FAR, (7, 9, 8, 8))):
            _, n, load = ever_inner(web, room, ends)
            for many in (1, 2, 3, 10 ** 9):
                value = ('inner', many * n, times(many, load))
                self.assertIs(shows_ever_inner(web, room, ends, value), True)
                self.assertIs(shows_ever_inner(web, room, ends, ('inner', n, times(many, load))), many == 1)
                self.assertIs(shows_ever_inner(web, room, ends, ('inner', many * n, load)), many == 1 or not ends)
        for n in range(2, 6):
            for r in range(0, 2 * n + 1, 2):
                value = ('inner', n, (n, n, n, n, r))
                self.assertIs(shows_ever_inner(FOUR, 2, (1, 1, 1, 1), value), 0 < r < 2 * n)

    def test_values_near_an_inner_load(self):
        right = ('inner', 2, (2, 2, 2, 2, 2))
        self.assertIs(shows_ever_inner(FOUR, 2, (1, 1, 1, 1), right), True)
        load = right[2]
        for value in (('inner', 0, (0, 0, 0, 0, 0)), ('inner', -2, load), ('inner', 2, list(load)), list(right),
                      ('inner', 2), ('inner', load), ('inner',), 'inner', ('Inner', 2, load), (*right, ()),
                      ('inner', True, load), ('inner', None, load), ('inner', '2', load), ('inner', (2,), load),
                      ('inner', 2, load[:4]), ('inner', 2, load + (0,)), ('inner', 2, (2, 2, 2, 2, 4)),
                      ('inner', 2, (2, 2, 2, 2, 0)), ('inner', 2, (2, 2, 2, 2, 3)), ('inner', 2, (2, 2, 2, 2, True)),
                      ('inner', 2, (load,)), ('inner', 2, None), ('inner', 1, load), ('inner', 4, load), load,
                      ('inner', 2, (2, 2, 2, 3, 3)), ('inner', 2, nested(28)), (None, 2, load), ('inner', load, 2)):
            self.assertIs(shows_ever_inner(FOUR, 2, (1, 1, 1, 1), value), False)
        self.assertIs(shows_ever_inner(THREE, 0, (), ('inner', 1, (0, 0, 0))), False)
        self.assertIs(shows_ever_inner(THREE, 1, (), ('inner', True, (0, 0, 0))), False)
        self.assertIs(shows_ever_inner(LONE, 3, (2, 1, 1), ('inner', 1, (2, 1, 1))), False)

    def test_values_near_others(self):
        ends = (3, 3, 3, 1)
        self.assertIs(shows_ever_inner(FOUR, 4, ends, ('lot', ('a', 'b', 'c'))), True)
        for names in (('a', 'b'), ('a', 'b', 'c', 'd'), ('c', 'b', 'a'), ('a', 'c', 'b'), ['a', 'b', 'c'], 'abc', (),
                      ('a', 'a', 'b', 'b', 'c'), ('a', 'b', 'b', 'c', 'c'), ('a', 'b', 'c', 'd', 'r'), ('a', 'b', 'd'),
                      ('a',), ('a', 'b', None), ('a', 'b', ['c']), (('a', 'b', 'c'),), (1, 2, 3), None, 3, nested(28),
                      ('a', 'b', 'r'), ('a', 'b', 'x')):
            self.assertIs(shows_ever_inner(FOUR, 4, ends, ('lot', names)), False)
        for value in (('lot', 'a', 'b', 'c'), ['lot', ('a', 'b', 'c')], ('lot', ('a', 'b', 'c'), ()), ('lot',), 'lot',
                      ('end', ('a', 'b', 'c')), ('lots', ('a', 'b', 'c')), ('room',), (None, ('a', 'b', 'c'))):
            self.assertIs(shows_ever_inner(FOUR, 4, ends, value), False)
        self.assertIs(shows_ever_inner(FOUR, 4, (0, 2, 2, 4), ('end', 'a')), True)
        for value in (['end', 'a'], ('end', ('a',)), ('end', 'r'), ('end', 'x'), ('end', 0), ('end', None), ('end',),
                      ('end', 'a', 'd'), ('end', 'b'), ('end', ['a']), ('end', nested(29)), ('End', 'a'), 'end'):
            self.assertIs(shows_ever_inner(FOUR, 4, (0, 2, 2, 4), value), False)
        self.assertIs(shows_ever_inner(PAIR, 0, (), ('room',)), True)
        for value in (['room'], 'room', ('room', 0), ('room', ()), (), ('Room',), ('end', 'a'), ('lot', ()),
                      ('inner', 1, (0, 0, 0))):
            self.assertIs(shows_ever_inner(PAIR, 0, (), value), False)

    def test_lots_of_even_numbers_are_never_shown(self):
        for ends, lot in (((4, 4, 1, 1), ('a', 'b')), ((3, 1, 1, 3), ('a', 'd')), ((0, 4, 4, 0), ('b', 'c'))):
            self.assertTrue(is_full_plainly(FOUR, 4, ends, lot))
            self.assertIs(shows_ever_inner(FOUR, 4, ends, ('lot', lot)), False)
        self.assertIs(shows_ever_inner(FOUR, 0, (0, 0, 0, 0), ('lot', ())), False)
        self.assertIs(shows_ever_inner(FOUR, 0, (0, 0, 0, 0), ('lot', ('a', 'b', 'c', 'd'))), False)
        self.assertIs(shows_ever_inner(FOUR, 0, (0, 0, 0, 0), ('lot', ('a', 'b', 'c'))), True)

    def test_lots_of_webs_with_rounds_are_never_shown(self):
        self.assertIs(shows_ever_inner(RING, 4, (3, 1), ('lot', ('p',))), False)
        self.assertIs(shows_ever_inner(LOOP, 6, (2,), ('lot', ('s',))), False)
        self.assertEqual(ever_inner(RING, 4, (3, 1))[0], 'inner')

    def test_values_of_any_kind(self):
        wrong = (('inner', nested(28), nested(28)), ('lot', nested(29)), ('end', nested(29)), (nested(29),) * 2,
                 (FOUR, FOUR), (FOUR,) * 3, ('inner', FOUR, FOUR), (None,) * 3, (None,) * 2, ('inner', 1, {}))
        for value in (*wrong, *ANY_VALUES):
            for room, ends in ((2, (1, 1, 1, 1)), (4, (1, 1, 1, 3)), (4, (0, 0, 2, 2)), (0, (0, 0, 0, 0))):
                self.assertIs(shows_ever_inner(FOUR, room, ends, value), False)


class WrongArguments(Case):

    FUNCTIONS = ((growth, ()), (grown, (1,)), (grown, (None,)), (inner_count, ()), (ever_inner, ()),
                 (shows_ever_inner, (('room',),)), (shows_ever_inner, (None,)))

    def test_rooms(self):
        for function, more in self.FUNCTIONS:
            for room in (*NO_ROOMS, FAR + 1, 10 ** 12):
                for ends in ((0, 0, 0, 0), (1, 0, 0, 0), None):
                    self.refuse(BadRoom, room, function, FOUR, room, ends, *more)
            for web in (LOOP, RING, THREE, PRISM, DRUM):
                for room in (*NO_ROOMS, 7, 60, FAR, FAR + 1):
                    self.refuse(BadRoom, room, function, web, room, (0,) * len(web.ends), *more)

    def test_the_greatest_rooms(self):
        for web, room in ((LONE, FAR), (FOUR, FAR), (LONG, FAR), (LOOP, 6), (THREE, 6), (CLIP, 6)):
            zeros = (0,) * len(web.ends)
            self.assertEqual(grown(web, room, zeros, 1), count(web, room, zeros) if room == 6 else 1)
            self.assertEqual(inner_count(web, room, zeros), comb(5, 3) if web is THREE else 0)
            self.assertEqual(ever_inner(web, room, zeros)[0], 'inner' if web is THREE else 'end')

    def test_ends(self):
        for function, more in self.FUNCTIONS:
            for ends in NO_ENDS:
                self.refuse(BadEnds, ends, function, FOUR, 6, ends, *more)
            for ends in ((0,), [], None):
                self.refuse(BadEnds, ends, function, THREE, 6, ends, *more)

    def test_odd_sums(self):
        for function, more in self.FUNCTIONS:
            if function is not inner_count:
                for web, room, ends in ((FOUR, 6, (1, 1, 1, 2)), (LOOP, 6, (5,)), (LONE, FAR, (FAR, FAR, 1))):
                    with self.assertRaises(OddEnds) as caught:
                        function(web, room, ends, *more)
                    self.assertIs(type(caught.exception), OddEnds)
                    self.assertEqual([caught.exception.value], [sum(ends)])

    def test_several_wrong_at_once(self):
        for room, ends, n in product((2, FAR + 1, None), ((1, 1, 1, 1), [1], (1, 0, 0, 0)), (1, True, 10 ** 9 + 1)):
            if room != 2:
                self.refuse(BadRoom, room, grown, FOUR, room, ends, n)
            elif ends == [1]:
                self.refuse(BadEnds, ends, grown, FOUR, room, ends, n)
            elif ends == (1, 0, 0, 0):
                with self.assertRaises(OddEnds):
                    grown(FOUR, room, ends, n)
            elif n is True or n != 1:
                self.refuse(BadTimes, n, grown, FOUR, room, ends, n)


class Conventions(Case):

    def test_equal_calls_return_equal_results(self):
        for web in WEBS:
            again, ends = Web(web.text), (2,) * len(web.ends)
            self.assertEqual(growth(web, 5, ends), growth(again, 5, ends))
            self.assertEqual(grown(web, 5, ends, 9), grown(again, 5, ends, 9))
            self.assertEqual(inner_count(web, 5, ends), inner_count(again, 5, ends))
            self.assertEqual(ever_inner(web, 5, ends), ever_inner(again, 5, ends))

    def test_nothing_changes_its_arguments(self):
        web, value = Web(FOUR.text), ['inner', 2, [2, 2, 2, 2, 2]]
        self.assertIs(shows_ever_inner(web, 2, (1, 1, 1, 1), value), False)
        growth(web, 2, (1, 1, 1, 1))
        ever_inner(web, 2, (1, 1, 1, 1))
        self.assertEqual([value, web, web.junctions], [['inner', 2, [2, 2, 2, 2, 2]], FOUR, FOUR.junctions])

    def test_counts_of_all_loads(self):
        for web in SMALL[:6]:
            for ends, loads in loads_by_ends(web.text, 3).items():
                self.assertEqual(grown(web, 3, ends, 1), len(loads))
        self.assertEqual(grown(web_of('a a b', 'b c c'), 3, (), 1), len(all_loads(PAIR.text, 3)))

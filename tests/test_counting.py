"""Section 9: how many loads."""

from fractions import Fraction
from itertools import combinations, permutations, product
from math import comb, pi, sin
from random import Random

from tests.case import Case
from tests.samples import (
    ANY_VALUES, CHAIN, CLIP, DRUM, FOUR, LONE, LONG, LOOP, NO_ROOMS, PAIR, PRISM, RING, SMALL, THREE, WEBS,
    all_loads, flippable, flipped_plainly, loads_by_ends, made_webs, nested, pairs_of_a_kind, row_of, web_of,
)
from threeroadcars.counting import count, far_count, table
from threeroadcars.errors import BadEnds, BadModulus, BadNumber, BadRoom, BadRounds
from threeroadcars.flips import led_load
from threeroadcars.leading import led_over
from threeroadcars.lots import some_load
from threeroadcars.webs import Web

MOST = 10 ** 12
LARGE = pairs_of_a_kind(120, 51)
LITTLE = [*SMALL, CHAIN, *made_webs(50, 52, most=3)]
NINE, EIGHT = Web(row_of(7)), Web(row_of(6))
NO_MODULI = (
    0, 1, 2, 4, 6, 8, 9, 15, 25, 49, 77, 97 * 101, 97 * 97, 9974, 9975, 10007, 10 ** 12 + 39, -3, -7,
    True, False, None, '3', '', (), (3,), [3], {}, {3: 3}, LONE, nested(30),
)
NO_ENDS = (
    [], [0], [0, 0, 0], None, '', '000', 0, 3, True, {}, {0: 0}, LONE, (0, 0, -1), (0, 0, 3), (True, 0, 1), (0, 0,
    None),
    (0, 0, '0'), ((0, 0, 0),), (0, 0, [0]), (0,) * 15, (0,) * 30, [nested(29)], (nested(29),),
)


def table_plainly(room, number):
    """The table of a number, as section 9 tells."""
    return [[int(all((2 * each <= number + i + j) for each in (number, i, j)) and (number + i + j) % 2 == 0
                 and number + i + j <= 2 * room) for j in range(room + 1)] for i in range(room + 1)]


def multiplied(one, other, modulus=None):
    rows = [[sum(a * b for a, b in zip(row, column)) for column in zip(*other)] for row in one]
    return rows if modulus is None else [[number % modulus for number in row] for row in rows]


def round_plainly(room):
    total = [[0] * (room + 1) for _ in range(room + 1)]
    for number in range(room + 1):
        square = multiplied(table_plainly(room, number), table_plainly(room, number))
        total = [[a + b for a, b in zip(*rows)] for rows in zip(total, square)]
    return total


def by_tables(room, ends, rounds, chance):
    """The number of loads by tables, multiplied in a sequence by chance."""
    tables = [table_plainly(room, load) for load in ends] + [round_plainly(room)] * rounds
    chance.shuffle(tables)
    whole = tables[0]
    for each in tables[1:]:
        whole = multiplied(whole, each)
    return whole[0][0]


def ways(ends, x):
    """P(x), by adding up all ways."""
    return sum(sum(signs) == x for signs in product(*[range(-load, load + 1, 2) for load in ends]))


def ways_by_lots(ends, x):
    """P(x), by the signed sum over lots."""
    y, more = divmod(sum(ends) - x, 2)
    if more or y < 0:
        return 0
    total = 0
    for size in range(len(ends) + 1):
        for lot in combinations(ends, size):
            left = y - sum(lot) - len(lot)
            if left >= 0:
                total += (-1) ** size * comb(left + len(ends) - 1, len(ends) - 1)
    return total


def by_sums(room, ends, told):
    far = sum(ends) // (2 * (room + 2)) + 2
    return sum(told(ends, 2 * m * (room + 2)) - told(ends, 2 * m * (room + 2) + 2) for m in range(-far, far + 1))


def at_times(numbers, n):
    """What the polynomial tells at n that tells these numbers at 1, 2, 3, .."""
    total = Fraction(0)
    for at, number in enumerate(numbers, 1):
        part = Fraction(number)
        for other in range(1, len(numbers) + 1):
            if other != at:
                part *= Fraction(n - other, at - other)
        total += part
    return total


def by_cutting(web, room, ends, road):
    """The number of loads, added up over what a road bears; its two halves are ends."""
    words = [list(row) for row in web.junctions]
    places = [(line, word) for line in range(len(words)) for word in range(3) if words[line][word] == road]
    for (line, word), name in zip(places, ('za', 'zb')):
        words[line][word] = name
    parts = [[row] for row in words]
    for one, other in combinations(range(len(parts)), 2):
        if set(words[one]) & set(words[other]):
            here, there = [next(part for part in parts if words[at] in part) for at in (one, other)]
            if here is not there:
                parts.remove(there)
                here.extend(there)
    told, total = dict(zip(web.ends, ends)), 0
    webs = [web_of(*[' '.join(row) for row in part]) for part in parts]
    for number in range(room + 1):
        borne, many = {**told, 'za': number, 'zb': number}, 1
        for part in webs:
            many *= count(part, room, tuple(borne[end] for end in part.ends))
        total += many
    return total


class Count(Case):

    def test_against_all_loads(self):
        for web in LITTLE:
            for room in (0, 1, 2, 3):
                loads = loads_by_ends(web.text, room)
                for ends in product(range(room + 1), repeat=len(web.ends)):
                    told = count(web, room, ends)
                    self.assertEqual(told, len(loads.get(ends, ())))
                    self.assertIs(type(told), int)

    def test_larger_webs_against_all_loads(self):
        for web in (PRISM, web_of('a b c', 'c d e', 'e f g', 'g h b'), *made_webs(12, 53, most=6)):
            for room in (1, 2):
                if len(web.roads) < 14:
                    for ends, loads in loads_by_ends(web.text, room).items():
                        self.assertEqual(count(web, room, ends), len(loads))

    def test_webs_of_one_kind(self):
        chance = Random(54)
        for one, other in LARGE:
            for room in (0, 1, 2, 5):
                ends = tuple(chance.randint(0, room) for _ in one.ends)
                self.assertEqual(count(one, room, ends), count(other, room, ends))
            if one.rounds == 0 and len(one.ends) <= 8:
                ends = tuple(chance.randint(0, MOST) for _ in one.ends)
                self.assertEqual(count(one, MOST, ends), count(other, MOST, ends))

    def test_behind_flips(self):
        chance = Random(55)
        for web, _ in LARGE[:60]:
            ends = tuple(chance.randint(0, 4) for _ in web.ends)
            for road, way in product(flippable(web), (1, 2)):
                self.assertEqual(count(web_of(*flipped_plainly(web, road, way)), 4, ends), count(web, 4, ends))

    def test_ends_in_other_sequences(self):
        for web, ends in ((FOUR, (1, 2, 3, 4)), (Web(row_of(3)), (5, 1, 2, 4, 2)), (CLIP, (3, 1)), (CHAIN, (0, 4))):
            told = {count(web, room, tuple(row)) for room in (5,) for row in permutations(ends)}
            self.assertEqual(len(told), 1)
            self.assertGreater(told.pop(), 0)
        told = {count(FOUR, MOST, row) for row in permutations((5, MOST // 10, 4, MOST // 10 + 1))}
        self.assertEqual(told, {5})
        self.assertEqual(count(NINE, 6, (1, 2, 3, 4, 5, 6, 5, 4, 2)), count(NINE, 6, (6, 5, 5, 4, 4, 3, 2, 2, 1)))

    def test_by_tables_in_any_sequence(self):
        chance = Random(56)
        for web in (FOUR, EIGHT, NINE, LONG, RING, CHAIN, PRISM, THREE, LOOP, *made_webs(25, 57, most=7)):
            for room in (0, 1, 4, 6):
                ends = tuple(chance.randint(0, room) for _ in web.ends)
                self.assertEqual(count(web, room, ends), by_tables(room, ends, web.rounds, chance))

    def test_by_signed_sums(self):
        chance = Random(58)
        for size in range(1, 11):
            web = Web(row_of(size))
            for room in (0, 1, 2, 3):
                ends = tuple(chance.randint(0, room) for _ in web.ends)
                self.assertEqual(count(web, room, ends), by_sums(room, ends, ways_by_lots))
                if size < 5:
                    self.assertEqual(count(web, room, ends), by_sums(room, ends, ways))
        self.assertEqual([ways((1, 1, 1, 1), x) for x in (0, 2, 4, -4, 6, 1)], [6, 4, 1, 1, 0, 0])

    def test_sums_and_tables_agree_where_both_can_be_told(self):
        """A web of nine ends, of which one bears nothing, has as many loads as one of eight."""
        chance = Random(59)
        for room in (0, 1, 2, 5, 17, 60):
            for _ in range(8):
                ends = tuple(chance.randint(0, room) for _ in EIGHT.ends)
                self.assertEqual(count(EIGHT, room, ends), count(NINE, room, ends + (0,)))

    def test_by_cutting_a_road(self):
        chance = Random(60)
        for web in (FOUR, RING, CLIP, CHAIN, PRISM, THREE, PAIR, LOOP, LONG, *made_webs(20, 61, most=8)):
            ends = tuple(chance.randint(0, 4) for _ in web.ends)
            for road in chance.sample(web.inner, min(3, len(web.inner))):
                self.assertEqual(count(web, 4, ends), by_cutting(web, 4, ends, road))

    def test_there_is_a_load_if_there_are_any(self):
        chance = Random(62)
        for web, _ in LARGE:
            ends = tuple(chance.randint(0, 7) for _ in web.ends)
            self.assertEqual(count(web, 7, ends) > 0, some_load(web, 7, ends)[0] == 'load')
        for web in (FOUR, EIGHT, LONE):
            for _ in range(40):
                ends = tuple(chance.randint(0, MOST) for _ in web.ends)
                self.assertEqual(count(web, MOST, ends) > 0, some_load(web, MOST, ends)[0] == 'load')

    def test_as_many_as_are_led_over(self):
        other = web_of('a c s', 's t d', 'b t u', 'u v v')
        one = web_of('a b p', 'p q r', 'c q s', 's r d')
        for ends in ((1, 1, 1, 1), (2, 1, 0, 1), (0, 0, 0, 0)):
            loads = loads_by_ends(one.text, 2)[ends]
            told = {led_over(one, other, 2, load) for load in loads}
            self.assertEqual([len(told), len(told)], [count(one, 2, ends), count(other, 2, ends)])
            self.assertEqual({led_load(one, 2, load, (('p', 1), ('p', 1))) for load in loads}, set(loads))

    def test_odd_sums(self):
        for web, room, ends in ((LONE, 3, (1, 1, 1)), (LOOP, 4, (3,)), (FOUR, MOST, (MOST, 1, 1, 1)), (RING, 60,
                (60, 59)),
                                (NINE, 60, (1,) * 9), (EIGHT, MOST, (1,) + (0,) * 7)):
            self.assertEqual(count(web, room, ends), 0)

    def test_far_rooms_of_three_and_four_ends(self):
        self.assertEqual(count(LONE, MOST, (MOST, MOST // 2, MOST // 2)), 1)
        self.assertEqual(count(LONE, MOST, (MOST, MOST // 2, MOST // 2 - 2)), 0)
        self.assertEqual(count(LONE, MOST, (MOST, MOST, 2)), 0)
        self.assertEqual(count(FOUR, MOST, (MOST // 2,) * 4), MOST // 2 + 1)
        self.assertEqual(count(FOUR, MOST, (MOST,) * 4), 1)
        self.assertEqual(count(FOUR, MOST, (MOST - 1,) * 4), 2)
        self.assertEqual(count(FOUR, 0, (0,) * 4), 1)
        chance = Random(63)
        for _ in range(200):
            room = chance.choice((MOST, MOST - 1, 10 ** 6, 7))
            a, b, c, d = ends = tuple(chance.randint(0, room) for _ in range(4))
            least, greatest = max(abs(a - b), abs(c - d)), min(a + b, c + d, 2 * room - a - b, 2 * room - c - d)
            told = max(0, (greatest - least) // 2 + 1) if sum(ends) % 2 == 0 else 0
            self.assertEqual(count(FOUR, room, ends), told)

    def test_far_rooms_of_up_to_eight_ends(self):
        """The loads at n times the room are as many as a polynomial tells, known from small rooms."""
        chance = Random(64)
        for size in range(3, 7):
            web = Web(row_of(size))
            for room in (1, 2, 3, 4):
                for _ in range(4):
                    ends = tuple(chance.randint(0, room) for _ in web.ends)
                    if sum(ends) % 2 == 0:
                        known = []
                        for n in range(1, size + 1):
                            known.append(by_tables(n * room, [n * load for load in ends], 0, chance))
                        far = MOST // room
                        told = count(web, far * room, tuple(far * load for load in ends))
                        self.assertEqual(told, at_times(known, far))

    def test_far_rooms_come_at_once(self):
        for number in range(100):
            self.assertGreater(count(EIGHT, MOST, (MOST // 2 + number,) * 8), MOST ** 5 // 10 ** 3)

    def test_rooms_of_sixty_with_rounds(self):
        self.assertEqual([count(THREE, room, ()) for room in (58, 60)], [comb(room + 3, 3) for room in (58, 60)])
        self.assertEqual([count(LOOP, 60, (even,)) for even in (0, 2, 58, 60)], [61, 59, 3, 1])
        self.assertEqual(count(RING, 60, (60, 60)), 61)
        for rounds, web in ((2, THREE), (3, web_of('a a b', 'b c d', 'c d e', 'e f f')), (4, PRISM)):
            self.assertEqual(web.rounds, rounds)
            near = sum((31 / sin(pi * number / 62) ** 2) ** (rounds - 1) for number in range(1, 62))
            self.assertLess(abs(count(web, 60, ()) / near - 1), 10 ** -9)

    def test_room_sixty_with_seven_rounds(self):
        web = max(made_webs(400, 65), key=lambda web: web.rounds)
        self.assertEqual([web.rounds, web.ends], [7, ()])
        near = sum((31 / sin(pi * number / 62) ** 2) ** 6 for number in range(1, 62))
        self.assertLess(abs(count(web, 60, ()) / near - 1), 10 ** -9)

    def test_wrong_rooms(self):
        for room in NO_ROOMS:
            for web in (LONE, RING, NINE, THREE):
                for ends in ((0,) * len(web.ends), None, [0]):
                    self.refuse(BadRoom, room, count, web, room, ends)

    def test_rooms_up_to_sixty(self):
        for web in (RING, LOOP, THREE, PAIR, PRISM, CHAIN, NINE, LONG):
            zeros = (0,) * len(web.ends)
            self.assertGreater(count(web, 60, zeros), 0)
            for room in (61, 62, 10 ** 6, MOST):
                for ends in (zeros, None, (-1,), [0]):
                    self.refuse(BadRoom, room, count, web, room, ends)
        for web in (LONE, FOUR, EIGHT):
            for room in (61, MOST):
                self.assertEqual(count(web, room, (0,) * len(web.ends)), 1)
        self.assertEqual([len(EIGHT.ends), len(NINE.ends), NINE.rounds], [8, 9, 0])

    def test_wrong_ends(self):
        for ends in (*ANY_VALUES, (0, 0), (0,) * 4, [0, 0, 0], (0, 0, -1), (0, 0, 6), (True, 0, 1), (0, 0, None),
                (0, 0, '0')):
            if ends != (1, 2, 3):
                self.refuse(BadEnds, ends, count, LONE, 5, ends)
                self.refuse(BadEnds, ends, count, NINE, 5, ends)
        for ends in ((0,), None, [], (0, 0)):
            self.refuse(BadEnds, ends, count, THREE, 5, ends)


class Table(Case):

    def test_against_the_definition(self):
        for room in (0, 1, 2, 5, 9):
            for number in range(room + 1):
                told = table(room, number)
                self.assertEqual(told, tuple(tuple(row) for row in table_plainly(room, number)))

    def test_room_nought_one_and_sixty(self):
        self.assertEqual(table(0, 0), ((1,),))
        self.assertEqual([table(1, 0), table(1, 1)], [((1, 0), (0, 1)), ((0, 1), (1, 0))])
        for number in (0, 1, 30, 59, 60):
            self.assertEqual(table(60, number), tuple(tuple(row) for row in table_plainly(60, number)))
        self.assertEqual(sum(map(sum, table(60, 60))), 61)

    def test_kinds(self):
        for room, number in ((0, 0), (5, 3), (60, 60)):
            told = table(room, number)
            self.assertEqual([type(told), len(told)], [tuple, room + 1])
            for row in told:
                self.assertEqual([type(row), len(row), {type(part) for part in row}], [tuple, room + 1, {int}])

    def test_entries_are_counts_at_one_junction(self):
        for room in (0, 1, 4):
            for number in range(room + 1):
                for (i, row) in enumerate(table(room, number)):
                    self.assertEqual(row, tuple(count(LONE, room, (number, i, j)) for j in range(room + 1)))

    def test_multiplied_in_either_sequence(self):
        for room in (1, 5):
            for one, other in combinations(range(room + 1), 2):
                one, other = table(room, one), table(room, other)
                self.assertEqual(multiplied(one, other), multiplied(other, one))

    def test_wrong_arguments(self):
        for room in (*NO_ROOMS, 61, 62, MOST):
            for number in (0, -1, None, [0], nested(30)):
                self.refuse(BadRoom, room, table, room, number)
        for room in (0, 1, 5, 60):
            for number in (-1, room + 1, MOST, True, False, None, '0', '', (), (0,), [0], {}, LONE, nested(30)):
                self.refuse(BadNumber, number, table, room, number)


class FarCount(Case):

    def test_against_count(self):
        chance = Random(66)
        for web, _ in LARGE:
            for room, modulus in ((0, 3), (1, 5), (4, 9973), (20, 97)):
                ends = tuple(chance.randint(0, room) for _ in web.ends)
                told = far_count(ends, web.rounds, room, modulus)
                self.assertEqual(told, count(web, room, ends) % modulus)
                self.assertIs(type(told), int)

    def test_rounds_beyond_all_webs(self):
        chance = Random(67)
        for ends, rounds, room in (((1, 1), 20, 2), ((), 33, 3), ((3,), 17, 3), ((2, 4, 1, 1), 64, 4), ((), 8, 6)):
            told = by_tables(room, ends, rounds, chance)
            for modulus in (3, 7, 101, 9973):
                self.assertEqual(far_count(ends, rounds, room, modulus), told % modulus)

    def test_far_rounds_without_ends(self):
        for rounds in (2, 3, 10 ** 9, 10 ** 18 - 1, 10 ** 18):
            for modulus in (3, 5, 7, 97, 9967, 9973):
                self.assertEqual(far_count((), rounds, 0, modulus), 1)
                self.assertEqual(far_count((), rounds, 1, modulus), pow(2, rounds, modulus))
                two = 2 * pow(4, rounds - 1, modulus) + pow(2, rounds - 1, modulus)
                self.assertEqual(far_count((), rounds, 2, modulus), two % modulus)

    def test_far_rounds_and_ends(self):
        chance = Random(68)
        for room, size in ((3, 0), (5, 2), (8, 5), (20, 14), (20, 1)):
            for rounds in (10 ** 18, 10 ** 18 - 1, 123456789012345678):
                ends = [chance.randint(0, room) for _ in range(size)]
                if sum(ends) % 2:
                    ends[0] += 1 if ends[0] < room else -1
                modulus = chance.choice((3, 9973, 4001))
                power, left = [[int(i == j) for j in range(room + 1)] for i in range(room + 1)], rounds
                for digit in bin(left)[2:]:
                    power = multiplied(power, power, modulus)
                    if digit == '1':
                        power = multiplied(power, round_plainly(room), modulus)
                for load in ends:
                    power = multiplied(power, table_plainly(room, load), modulus)
                self.assertEqual(far_count(tuple(ends), rounds, room, modulus), power[0][0])

    def test_ends_in_other_sequences(self):
        for ends in permutations((4, 1, 3, 2)):
            self.assertEqual(far_count(ends, 10 ** 17, 5, 9973), far_count((1, 2, 3, 4), 10 ** 17, 5, 9973))

    def test_fourteen_ends(self):
        self.assertEqual(far_count((1,) * 14, 0, 20, 9973), comb(14, 7) // 8 % 9973)
        self.assertEqual(far_count((20,) * 14, 0, 20, 3), 1)
        self.assertEqual(far_count((1,) * 13 + (0,), 10 ** 18, 20, 9973), 0)

    def test_least_and_greatest_prime(self):
        self.assertEqual([far_count((), 2, room, 3) for room in range(5)], [1, 1, 1, 2, 2])
        self.assertEqual(far_count((), 2, 20, 9973), comb(23, 3))
        self.assertEqual(far_count((), 3, 20, 9973), sum(round((11 / sin(pi * number / 22) ** 2) ** 2, 6)
                                                        for number in range(1, 22)).__round__() % 9973)

    def test_primes(self):
        primes = []
        for number in range(2, 9974):
            if all(number % prime for prime in primes):
                primes.append(number)
        primes.remove(2)
        self.assertEqual([primes[0], primes[-1]], [3, 9973])
        for modulus in range(1, 9990):
            if modulus in primes:
                self.assertEqual(far_count((1, 1, 0), 0, 1, modulus), 1)
            else:
                with self.assertRaises(BadModulus):
                    far_count((1, 1, 0), 0, 1, modulus)

    def test_wrong_moduli(self):
        for modulus in NO_MODULI:
            self.refuse(BadModulus, modulus, far_count, (1, 1, 0), 0, 1, modulus)
            self.refuse(BadModulus, modulus, far_count, (), 10 ** 18, 20, modulus)

    def test_too_few_ends_for_the_rounds(self):
        for ends, rounds in (((), 0), ((0,), 0), ((0, 0), 0), ((), 1)):
            self.refuse(BadRounds, rounds, far_count, ends, rounds, 3, 7)
        for ends, rounds in (((0, 0, 0), 0), ((0,), 1), ((), 2), ((0, 0), 1)):
            self.assertGreater(far_count(ends, rounds, 3, 97), 0)

    def test_wrong_rounds(self):
        for rounds in (-1, 10 ** 18 + 1, 10 ** 19 - 1, -10 ** 18, True, False, None, '1', '', (), (1,), [1], {},
                LONE, nested(30)):
            for modulus in (7, 4):
                self.refuse(BadRounds, rounds, far_count, (1, 1, 2), rounds, 3, modulus)

    def test_wrong_ends(self):
        for ends in NO_ENDS:
            for rounds, modulus in ((2, 7), (None, 7), (2, 4)):
                self.refuse(BadEnds, ends, far_count, ends, rounds, 2, modulus)
        self.assertEqual(far_count((0,) * 14, 0, 2, 7), 1)

    def test_wrong_rooms(self):
        for room in (*NO_ROOMS, 21, 60, MOST):
            for ends, rounds, modulus in (((0, 0, 0), 2, 7), (None, 2, 7), ((0, 0, 0), None, 4)):
                self.refuse(BadRoom, room, far_count, ends, rounds, room, modulus)
        self.assertEqual(far_count((20, 20, 0), 0, 20, 7), 1)

    def test_several_arguments_wrong(self):
        """First the room, then ends, rounds, modulus."""
        for ends, rounds, room, modulus in product(((1, 1, 0), None, (3, 3, 9)), (2, None, True, -1), (3, None,
                21), (7, None, 9)):
            if room != 3:
                self.refuse(BadRoom, room, far_count, ends, rounds, room, modulus)
            elif ends != (1, 1, 0):
                self.refuse(BadEnds, ends, far_count, ends, rounds, room, modulus)
            elif rounds != 2:
                self.refuse(BadRounds, rounds, far_count, ends, rounds, room, modulus)
            elif modulus != 7:
                self.refuse(BadModulus, modulus, far_count, ends, rounds, room, modulus)


class Conventions(Case):

    def test_equal_calls_return_equal_results(self):
        for web in (*WEBS, DRUM):
            zeros = (0,) * len(web.ends)
            self.assertEqual(count(web, 7, zeros), count(Web(web.text), 7, zeros))
            self.assertEqual(count(web, 7, zeros), count(web, 7, zeros))
        self.assertEqual(table(7, 3), table(7, 3))
        self.assertEqual(far_count((1, 1), 10 ** 18, 7, 7), far_count((1, 1), 10 ** 18, 7, 7))

    def test_nothing_changes_its_arguments(self):
        web, ends = Web(FOUR.text), [1, 1, 1, 1]
        self.refuse(BadEnds, ends, count, web, 2, ends)
        self.refuse(BadEnds, ends, far_count, ends, 1, 2, 7)
        count(web, 2, (1, 1, 1, 1))
        self.assertEqual([ends, web, web.junctions, web.ends], [[1, 1, 1, 1], FOUR, FOUR.junctions, FOUR.ends])

    def test_all_loads_are_as_many_as_all_counts(self):
        for web in SMALL:
            told = sum(count(web, 3, ends) for ends in product(range(4), repeat=len(web.ends)))
            self.assertEqual(told, len(all_loads(web.text, 3)))

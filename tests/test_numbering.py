"""Section 10: loads by number."""

from itertools import pairwise, product
from math import comb
from random import Random

from tests.case import Case
from tests.samples import (
    ANY_VALUES, CHAIN, CLIP, DRUM, FOUR, LONE, LONG, LOOP, NO_ROOMS, PAIR, PRISM, RING, SMALL, THREE, TREE, WEBS,
    all_loads, ends_plainly, even_ends, fits_plainly, loads_by_ends, made_trees, made_webs, nested, row_of, web_of,
)
from threeroadcars.counting import count
from threeroadcars.errors import BadEnds, BadLoad, BadNumber, BadRoom
from threeroadcars.lots import borne
from threeroadcars.numbering import load_at, next_load, place_of
from threeroadcars.webs import Web

LITTLE = [*SMALL, CHAIN, *made_webs(40, 71, most=3)]
LARGE = made_webs(60, 72)
TREES = made_trees(40, 73)
NO_NUMBERS = (-1, -10 ** 12, True, False, None, '', '0', 'a', (), (0,), [0], [], {}, {0: 0}, LONE, nested(30))
TWO = web_of('p q s', 'q p s')


class AgainstAllLoads(Case):

    def test_all_numbers_tell_all_loads_each_once_ascending(self):
        for web in LITTLE:
            for room in (0, 1, 2, 3):
                loads = loads_by_ends(web.text, room)
                for ends in product(range(room + 1), repeat=len(web.ends)):
                    there = sorted(loads.get(ends, ()))
                    told = [load_at(web, room, ends, number) for number in range(len(there))]
                    self.assertEqual(told, there)
                    self.refuse(BadNumber, len(there), load_at, web, room, ends, len(there))

    def test_the_number_of_each_load_is_told_back(self):
        for web in LITTLE:
            for room in (0, 1, 2, 3):
                for loads in loads_by_ends(web.text, room).values():
                    told = [place_of(web, room, load) for load in sorted(loads)]
                    self.assertEqual(told, list(range(len(loads))))
                    self.assertEqual({type(number) for number in told}, {int})

    def test_next_load_leads_from_the_first_through_all(self):
        for web in LITTLE:
            for room in (0, 1, 2, 3):
                for ends, loads in loads_by_ends(web.text, room).items():
                    load, told = load_at(web, room, ends, 0), []
                    while load is not None:
                        told.append(load)
                        load = next_load(web, room, load)
                    self.assertEqual(told, sorted(loads))

    def test_webs_of_more_junctions(self):
        webs = (PRISM, web_of('a b c', 'c d e', 'e f g', 'g h b'), *made_webs(12, 74, most=6), *made_trees(6, 75, 5))
        for web in webs:
            if len(web.roads) < 14:
                for ends, loads in list(loads_by_ends(web.text, 2).items())[::7]:
                    loads = sorted(loads)
                    for number in range(0, len(loads), 5):
                        self.assertEqual(load_at(web, 2, ends, number), loads[number])
                        self.assertEqual(place_of(web, 2, loads[number]), number)
                    for one, other in list(pairwise([*loads, None]))[-3:]:
                        self.assertEqual(next_load(web, 2, one), other)

    def test_the_samples_have_no_one_and_two_rounds_and_no_ends(self):
        self.assertLessEqual({0, 1, 2}, {web.rounds for web in LITTLE})
        self.assertIn((), {web.ends for web in LITTLE})
        self.assertTrue(any(len(set(words)) < 3 for web in LITTLE for words in web.junctions))


class GreaterRooms(Case):

    def check_load(self, web, room, ends, load):
        self.assertEqual([type(load), len(load)], [tuple, len(web.roads)])
        self.assertTrue(all(type(number) is int for number in load))
        self.assertTrue(fits_plainly(web, room, load))
        self.assertEqual(ends_plainly(web, load), ends)

    def greedy(self, web, room, ends, which):
        """The first or the last load, road by road, by what each can bear beside what was told (section 8)."""
        load = {}
        for road in web.roads:
            for number in list(range(room + 1))[::which]:
                found = [tried for tried in all_loads(web.text, room)
                         if ends_plainly(web, tried) == ends
                         and all(tried[web.roads.index(name)] == told for name, told in load.items())
                         and tried[web.roads.index(road)] == number]
                if found:
                    load[road] = number
                    break
        return tuple(load.values())

    def test_first_and_last_by_greed(self):
        for web, ends in ((FOUR, (1, 2, 2, 3)), (RING, (1, 3)), (THREE, ()), (PAIR, ()), (LOOP, (2,)), (CLIP, (2, 2))):
            self.assertEqual(load_at(web, 3, ends, 0), self.greedy(web, 3, ends, 1))
            self.assertEqual(load_at(web, 3, ends, count(web, 3, ends) - 1), self.greedy(web, 3, ends, -1))

    def test_first_last_and_between_of_large_webs(self):
        chance, seen = Random(76), 0
        for web in (*WEBS, *LARGE, *TREES):
            for room in (chance.choice((60, 59)), chance.choice((7, 2, 1))):
                ends = even_ends(web, room, chance)
                many = count(web, room, ends)
                if many == 0:
                    self.refuse(BadNumber, 0, load_at, web, room, ends, 0)
                    continue
                seen += 1
                numbers = sorted({0, many - 1, many // 2, chance.randrange(many)})
                loads = [load_at(web, room, ends, number) for number in numbers]
                for number, load in zip(numbers, loads):
                    self.check_load(web, room, ends, load)
                    self.assertEqual(place_of(web, room, load), number)
                self.assertEqual(loads, sorted(set(loads)))
                self.assertIsNone(next_load(web, room, loads[-1]))
                self.refuse(BadNumber, many, load_at, web, room, ends, many)
                for road in web.inner[:1]:
                    least, greatest, _ = borne(web, room, ends, road)
                    at = web.roads.index(road)
                    self.assertEqual([loads[0][at], loads[-1][at]], [least, greatest])
        self.assertGreater(seen, 120)

    def test_next_loads_are_neighbours(self):
        chance = Random(77)
        for web in (*WEBS, *LARGE[:25], *TREES[:15]):
            room = chance.choice((60, 30, 9))
            ends = even_ends(web, room, chance)
            many = count(web, room, ends)
            if many > 1:
                number = chance.randrange(many - 1)
                load = load_at(web, room, ends, number)
                following = next_load(web, room, load)
                self.assertEqual(following, load_at(web, room, ends, number + 1))
                self.assertEqual(place_of(web, room, following), number + 1)
                self.assertLess(load, following)

    def test_as_many_ahead_as_bear_less_on_the_first_inner_road(self):
        loads = [load for load in product((30,), range(61), range(61), (20,)) if fits_plainly(RING, 60, load)]
        self.assertEqual(len(loads), count(RING, 60, (30, 20)))
        for number in range(0, len(loads), 37):
            self.assertEqual(load_at(RING, 60, (30, 20), number), loads[number])
            self.assertEqual(place_of(RING, 60, loads[number]), number)
        for number in range(11, 55, 6):
            ahead = sum(load[1] < number for load in loads)
            self.assertEqual(load_at(RING, 60, (30, 20), ahead)[1], number)
            self.assertEqual(load_at(RING, 60, (30, 20), ahead - 1)[1], number - 1)

    def test_one_road_alone(self):
        for ends in ((30, 20, 10, 40), (60, 60, 60, 60), (1, 2, 3, 60), (0, 7, 7, 0)):
            for web in (FOUR, TREE):
                loads = [ends + (r,) for r in range(61) if fits_plainly(web, 60, ends + (r,))]
                self.assertEqual([load_at(web, 60, ends, number) for number in range(len(loads))], loads)
                self.assertEqual([place_of(web, 60, load) for load in loads], list(range(len(loads))))
                for one, other in pairwise([*loads, None]) if loads else ():
                    self.assertEqual(next_load(web, 60, one), other)

    def test_no_ends_and_two_rounds(self):
        self.assertEqual(count(TWO, 60, ()), comb(63, 3))
        self.assertEqual(load_at(TWO, 60, (), comb(63, 3) - 1), (60, 60, 0))
        self.assertEqual([load_at(TWO, 60, (), number) for number in (0, 1, 60, 61)],
                         [(0, 0, 0), (0, 1, 1), (0, 60, 60), (1, 0, 1)])
        self.assertEqual(place_of(TWO, 60, (60, 0, 60)), comb(63, 3) - 61)
        for room in range(0, 61, 12):
            ahead = 0
            for p in range(room + 1):
                self.assertEqual(place_of(TWO, room, (p, 0, p)), ahead)
                ahead += (p + 1) * (room - p + 1)

    def test_a_road_that_meets_itself(self):
        for even in (0, 2, 30, 58, 60):
            least = even // 2
            self.assertEqual(load_at(LOOP, 60, (even,), 0), (least, even))
            self.assertEqual(load_at(LOOP, 60, (even,), 60 - even), (60 - least, even))
            self.refuse(BadNumber, 61 - even, load_at, LOOP, 60, (even,), 61 - even)
        self.assertEqual([load_at(DRUM, 60, (20,), 7), place_of(DRUM, 60, (17, 20))], [(17, 20), 7])

    def test_one_junction_without_inner_roads(self):
        self.assertEqual(load_at(LONE, 60, (60, 30, 30), 0), (60, 30, 30))
        self.assertEqual(place_of(LONE, 60, (60, 30, 30)), 0)
        self.assertIsNone(next_load(LONE, 60, (60, 30, 30)))
        self.refuse(BadNumber, 1, load_at, LONE, 60, (60, 30, 30), 1)
        self.refuse(BadNumber, 0, load_at, LONE, 60, (60, 30, 29), 0)
        self.refuse(BadNumber, 0, load_at, LONE, 60, (60, 60, 2), 0)

    def test_seven_rounds_at_room_sixty(self):
        web = max(made_webs(400, 65), key=lambda web: web.rounds)
        many = count(web, 60, ())
        self.assertEqual([web.rounds, web.ends], [7, ()])
        for number in (0, 1, many // 3, many - 2, many - 1):
            load = load_at(web, 60, (), number)
            self.check_load(web, 60, (), load)
            self.assertEqual(place_of(web, 60, load), number)
        self.assertEqual(load_at(web, 60, (), 0), (0,) * 18)
        self.assertIsNone(next_load(web, 60, load))


class WrongArguments(Case):

    def test_rooms(self):
        for room in (*NO_ROOMS, 61, 62, 10 ** 12):
            for ends, number in (((0, 0, 0, 0), 0), (None, None), ((0, 0, 0, 0), -1), ([0], True)):
                self.refuse(BadRoom, room, load_at, FOUR, room, ends, number)
            for load in ((0,) * 5, None, [0], (1,)):
                self.refuse(BadRoom, room, place_of, FOUR, room, load)
                self.refuse(BadRoom, room, next_load, FOUR, room, load)
        for room in (0, 60):
            self.assertEqual(load_at(FOUR, room, (0, 0, 0, 0), 0), (0,) * 5)
            self.assertEqual(place_of(FOUR, room, (0,) * 5), 0)
            self.assertIsNone(next_load(FOUR, room, (0,) * 5))

    def test_ends(self):
        for ends in (*ANY_VALUES, (1, 1, 1), (1,) * 5, [1, 1, 1, 1], (1, 1, 1, -1), (1, 1, 1, 6), (True, 1, 1, 1),
                     (1, 1, None, 1), (1, 1, '1', 1), ((1, 1, 1, 1),)):
            for number in (0, -1, None, True, nested(30)):
                self.refuse(BadEnds, ends, load_at, FOUR, 5, ends, number)
        for ends in ((0,), [], None, (0, 0)):
            self.refuse(BadEnds, ends, load_at, THREE, 5, ends, 0)

    def test_numbers(self):
        for web, room, ends in ((FOUR, 2, (1, 1, 1, 1)), (THREE, 60, ()), (RING, 5, (1, 1)), (FOUR, 2, (1, 1, 1, 0)),
                                (LONE, 2, (2, 2, 2))):
            many = count(web, room, ends)
            for number in (*NO_NUMBERS, many, many + 1, 10 ** 12, -many - 1):
                self.refuse(BadNumber, number, load_at, web, room, ends, number)

    def test_loads(self):
        load = (1, 1, 1, 1, 2)
        for function in (place_of, next_load):
            for value in (*ANY_VALUES, (1, 1, 1, 1, 1), [1, 1, 1, 1, 2], load[:4], load + (0,), (1, 1, 1, True, 2),
                          (1, 1, 1, 1, None), (3, 3, 3, 3, 2), (2, 2, 2, 2, 4), (1, 1, 1, -1, 2), (load,)):
                self.refuse(BadLoad, value, function, FOUR, 2, value)
            self.refuse(BadLoad, load, function, FOUR, 1, load)
            far = (61, 61, 0, 0, 0)
            self.refuse(BadLoad, far, function, FOUR, 60, far)

    def test_several_wrong_at_once(self):
        for room, ends, number in product((2, 61, None), ((1, 1, 1, 1), [1, 1, 1, 1], (1,)), (0, 2, True)):
            if room != 2:
                self.refuse(BadRoom, room, load_at, FOUR, room, ends, number)
            elif ends != (1, 1, 1, 1):
                self.refuse(BadEnds, ends, load_at, FOUR, room, ends, number)
            elif number != 0 or number is True:
                self.refuse(BadNumber, number, load_at, FOUR, room, ends, number)


class Conventions(Case):

    def test_equal_calls_return_equal_results(self):
        chance = Random(78)
        for web in (*LARGE[:20], *TREES[:10]):
            again, ends = Web(web.text), even_ends(web, 20, chance)
            many = count(web, 20, ends)
            if many:
                number = chance.randrange(many)
                load = load_at(web, 20, ends, number)
                self.assertEqual(load_at(again, 20, ends, number), load)
                self.assertEqual(place_of(again, 20, load), place_of(web, 20, load))
                self.assertEqual(next_load(again, 20, load), next_load(web, 20, load))

    def test_nothing_changes_its_arguments(self):
        web, ends, load = Web(row_of(3)), [1, 1, 1, 1, 2], [1, 1, 1, 1, 2, 2, 2]
        self.refuse(BadEnds, ends, load_at, web, 3, ends, 0)
        self.refuse(BadLoad, load, place_of, web, 3, load)
        load_at(web, 3, tuple(ends), 0)
        self.assertEqual([ends, load, web, web.junctions], [[1, 1, 1, 1, 2], [1, 1, 1, 1, 2, 2, 2], Web(row_of(3)),
                                                            Web(row_of(3)).junctions])

    def test_what_was_told_twice_as_great_is_a_load_too(self):
        chance = Random(79)
        for web in (*WEBS, *LARGE[:20]):
            ends = even_ends(web, 6, chance)
            many = count(web, 6, ends)
            if many:
                load = load_at(web, 6, ends, many - 1)
                twice = tuple(2 * number for number in load)
                place = place_of(web, 12, twice)
                self.assertEqual(load_at(web, 12, ends_plainly(web, twice), place), twice)

    def test_twelve_junctions_without_rounds(self):
        ends = (1,) * 14
        self.assertEqual(count(LONG, 60, ends), comb(14, 7) // 8)
        told = [load_at(LONG, 60, ends, number) for number in range(comb(14, 7) // 8)]
        self.assertEqual(told, sorted(set(told)))
        self.assertTrue(all(fits_plainly(LONG, 60, load) for load in told))

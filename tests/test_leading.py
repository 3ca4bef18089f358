"""Section 7: webs led over."""

from itertools import product
from random import Random

from tests.case import Case
from tests.samples import (
    ANY_VALUES, CHAIN, CLIP, DRUM, FOUR, LONE, LONG, LOOP, NO_ROOMS, PAIR, PRISM, RING, THREE, TREE,
    WEBS, all_loads, called_plainly, ends_plainly, fits_plainly, flippable, flipped_plainly, loads_by_ends,
    made_loads, nested, pairs_of_a_kind, web_of,
)
from threeroadcars.errors import BadLoad, BadRoom, Unlike
from threeroadcars.flips import led_load
from threeroadcars.leading import led_over, same_kind, shows_same_kind
from threeroadcars.webs import Web

MOST = 10 ** 12
LARGE = pairs_of_a_kind(400, 31)
SMALL_PAIRS = pairs_of_a_kind(60, 32, most=4)
CUBE = web_of('a b c', 'a d e', 'b f g', 'c h i', 'd f j', 'e h k', 'g i l', 'j k l')
TIED = web_of('a a b', 'b c d', 'c e e', 'd f g', 'f h h', 'g i j', 'i k k', 'j l l')
ENDS, ROUNDS = ('ends',), ('rounds',)


def meets(web):
    return sorted(sorted(words) for words in web.junctions)


def shown_plainly(one, other, value):
    """Whether a value is right for webs of one kind, step by step as section 7 tells."""
    if type(value) is not tuple or len(value) != 3 or value[0] != 'led':
        return False
    script, names = value[1:]
    if type(script) is not tuple or type(names) is not tuple:
        return False
    here = one
    for row in script:
        if type(row) is not tuple or len(row) != 2 or row[0] not in flippable(here):
            return False
        if type(row[1]) is not int or row[1] not in (1, 2):
            return False
        here = web_of(*flipped_plainly(here, *row))
    if [type(row) for row in names] != [tuple] * len(here.inner) or {len(row) for row in names} - {2}:
        return False
    if tuple(road for road, _ in names) != here.inner:
        return False
    theirs = [its for _, its in names]
    if any(road not in theirs for road in other.inner):
        return False
    return meets(called_plainly(here, dict(names))) == meets(other)


def spoilt(value, chance):
    """A value with one part otherwise."""
    word, script, names = value
    at, to = chance.randrange(len(script) + 1), chance.randrange(len(names))
    rows = list(script)
    row = rows[at] if at < len(rows) else ('q', 1)
    swapped = [(road, its) for (road, _), (_, its) in zip(names, names[to:] + names[:to])]
    return chance.choice((
        (word, script[:at] + script[at + 1:], names),
        (word, script[:at] + ((row[0], 3 - row[1]),) + script[at + 1:], names),
        (word, script[:at] + ((row[0], True),) + script[at + 1:], names),
        (word, script[:at] + ((row[0], 0),) + script[at + 1:], names),
        (word, script[:at] + (list(row),) + script[at + 1:], names),
        (word, script[:at] + ((names[to][0], 1),) + script[at:], names),
        (word, script[:at] + ((names[to][0], 2),) + script[at + 1:], names),
        (word, script + script[-1:], names),
        (word, script, tuple(swapped)),
        (word, script, names[:to] + names[to + 1:]),
        (word, script, names[:to] + names[to:to + 1] + names[to:]),
        (word, script, names[::-1]),
        (word, script, names[to:] + names[:to]),
        (word, script, names[:to] + ((names[to][0], names[0][1]),) + names[to + 1:]),
        (word, script, names[:to] + ((names[to][0], names[to][0]),) + names[to + 1:]),
        (word, script, names[:to] + (list(names[to]),) + names[to + 1:]),
        (word, script, names[:to] + (names[to] + ('x',),) + names[to + 1:]),
        (word, script, names[:to] + ((names[to][0], None),) + names[to + 1:]),
        (word, script, names[:to] + ((names[to][0], [names[to][1]]),) + names[to + 1:]),
        (word, script, names[:to] + (None,) + names[to + 1:]),
        (word, script, list(names)),
        (word, script, dict(names)),
        (word, list(script), names),
        (word, None, names),
        (word, script, None),
        (word, names, script),
        ('Led', script, names),
        (None, script, names),
        (script, names),
        (word, script),
        (word, script, names, ()),
        [word, script, names],
    ))


class SameKind(Case):

    def test_which_webs_are_looked_at(self):
        """No, one, two, three and more rounds, with ends and without, up to twelve junctions."""
        kinds = {(bool(one.ends), one.rounds) for one, _ in LARGE}
        self.assertLessEqual({(True, rounds) for rounds in range(7)} | {(False, rounds) for rounds in range(2, 8)},
                kinds)
        self.assertEqual({len(one) for one, _ in LARGE}, set(range(1, 13)))
        self.assertGreater(sum(one.inner != other.inner for one, other in LARGE), 100)

    def check(self, one, other):
        self.assertEqual([one.ends, one.rounds], [other.ends, other.rounds])
        told = same_kind(one, other)
        with self.subTest(one=one.text, other=other.text, told=told):
            self.assertTrue(shown_plainly(one, other, told))
            self.assertIs(shows_same_kind(one, other, told), True)

    def test_webs_of_one_kind(self):
        for one, other in LARGE + SMALL_PAIRS:
            self.check(one, other)

    def test_a_web_and_itself(self):
        for web in (*WEBS, CUBE, TIED):
            self.check(web, web)
            self.check(web, web_of(*[' '.join(reversed(words)) for words in reversed(web.junctions)]))

    def test_webs_without_ends(self):
        self.check(THREE, PAIR)
        self.check(PAIR, THREE)
        self.check(CUBE, TIED)
        self.check(TIED, CUBE)
        self.check(CUBE, called_plainly(TIED, dict(zip('abcdefghijkl', 'lkjihgfedcba'))))

    def test_webs_of_one_junction(self):
        self.check(LONE, web_of('c a b'))
        self.check(DRUM, web_of('r r x'))
        self.check(web_of('r r x'), DRUM)
        self.check(web_of('r x r'), web_of('s s x'))
        self.assertEqual(same_kind(LONE, web_of('b c a'))[0], 'led')

    def test_inner_roads_of_one_are_called_as_others_of_the_other(self):
        self.check(web_of('a b r', 'r c s', 's d e'), web_of('a d s', 's c r', 'r b e'))
        self.check(web_of('a p q', 'q p b'), web_of('a b p', 'p q q'))
        self.check(web_of('a b p', 'p q q'), web_of('a b q', 'p p q'))

    def test_twelve_junctions(self):
        names = sorted(LONG.ends)
        turned = called_plainly(LONG, dict(zip(names, names[7:] + names[:7])))
        self.check(LONG, turned)
        self.check(turned, LONG)
        rows = ['ra ea rb', 'eb rm b', 'b ec c', 'c ed d', 'd ee e', 'e ef f', 'f eg g', 'g eh h', 'h ei i', 'i ej j',
                'j ek k', 'k el rb']
        other = web_of(*rows)
        self.assertEqual([other.ends, other.rounds, len(other)], [LONG.ends, 0, 12])
        self.check(LONG, other)

    def test_other_ends(self):
        for one, other in ((LONE, FOUR), (LONE, web_of('a b d')), (RING, CLIP), (DRUM, LOOP), (LONE, PAIR), (LONG,
                LONE)):
            self.assertEqual(same_kind(one, other), ENDS)
            self.assertEqual(same_kind(other, one), ENDS)
            self.assertIs(shows_same_kind(one, other, ENDS), True)
            self.assertIs(shows_same_kind(one, other, ROUNDS), False)

    def test_other_rounds(self):
        one = web_of('a r r')
        for other in (web_of('a s t', 's t u', 'u v v'), web_of('a r s', 'r s t', 't u v', 'u v w', 'w x x')):
            self.assertEqual(same_kind(one, other), ROUNDS)
            self.assertEqual(same_kind(other, one), ROUNDS)
            self.assertIs(shows_same_kind(one, other, ROUNDS), True)
            self.assertIs(shows_same_kind(one, other, ENDS), False)
        self.assertEqual(same_kind(PAIR, PRISM), ROUNDS)
        self.assertEqual(same_kind(FOUR, web_of('a b r', 'c d s', 'r s t', 't u u')), ROUNDS)

    def test_other_ends_come_first(self):
        self.assertEqual(same_kind(LONE, DRUM), ENDS)
        self.assertEqual(same_kind(CHAIN, PAIR), ENDS)


class ShowsSameKind(Case):

    def test_values_with_one_part_otherwise(self):
        chance, right, wrong = Random(33), 0, 0
        for one, other in LARGE + SMALL_PAIRS:
            told = same_kind(one, other)
            if not told[2]:
                continue
            for _ in range(12):
                value = spoilt(told, chance)
                shown = shown_plainly(one, other, value)
                with self.subTest(one=one.text, other=other.text, value=value):
                    self.assertIs(shows_same_kind(one, other, value), shown)
                right, wrong = right + shown, wrong + (not shown)
        self.assertGreater(min(right, wrong), 50)

    def test_other_scripts(self):
        cross, along = web_of('a b r', 'r c d'), web_of('s c a', 'b d s')
        for script, shown in (
            ((('r', 1),), True), ((('r', 2),), False), ((), False), ((('r', 2), ('r', 1)), True),
            ((('r', 1), ('r', 1), ('r', 1)), True), ((('r', 1), ('r', 2)), False), ((('s', 1),), False),
        ):
            self.assertIs(shows_same_kind(cross, along, ('led', script, (('r', 's'),))), shown)
            self.assertIs(shown_plainly(cross, along, ('led', script, (('r', 's'),))), shown)

    def test_names_of_ends_are_none(self):
        self.assertIs(shows_same_kind(LONE, LONE, ('led', (), ())), True)
        for names in ((('a', 'a'), ('b', 'b'), ('c', 'c')), (('a', 'a'),)):
            self.assertIs(shows_same_kind(LONE, LONE, ('led', (), names)), False)
        for names in ((('r', 'a'),), (('r', 'r'), ('a', 'a')), ((1, 'r'),), (('r', 1),), (('r', ('r',)),), ()):
            self.assertIs(shows_same_kind(FOUR, FOUR, ('led', (), names)), False)
        self.assertIs(shows_same_kind(FOUR, FOUR, ('led', (), (('r', 'r'),))), True)

    def test_values_of_any_kind(self):
        wrong = (
            ('led',), ('led', ()), ('led', (), ()), ('led', (), (), ()), ['ends'], ['rounds'], 'ends', 'rounds',
            ('led', None, None),
            (None, (), ()), ('led', [], []), ('led', 1, 1), (FOUR, FOUR, FOUR), ('ends', ()), ('rounds', 1),
            {'ends': 1}, (('ends',),),
            ('led', nested(29), nested(29)), ('led', (nested(28),), (nested(28),)), ('led', ((nested(27), 1),),
            ((nested(27), 'r'),)),
            ('ends', 'rounds'), ('Ends',), ('odd',), ([],), (nested(29),), ('led', (), ((nested(27), nested(27)),)),
        )
        for value in wrong + ANY_VALUES:
            self.assertIs(shows_same_kind(TREE, FOUR, value), False)
            if value != ('led', (), ()):
                self.assertIs(shows_same_kind(LONE, LONE, value), False)
            self.assertIs(shows_same_kind(LONE, FOUR, value), False)
            self.assertIs(shows_same_kind(PAIR, PRISM, value), False)
        for value in (ENDS, ROUNDS):
            self.assertIs(shows_same_kind(TREE, FOUR, value), False)

    def test_what_is_shown_of_unlike_webs(self):
        for one, other, told in ((LONE, FOUR, ENDS), (PAIR, PRISM, ROUNDS)):
            for value in (ENDS, ROUNDS, ('led', (), ()), same_kind(FOUR, TREE), list(told)):
                self.assertIs(shows_same_kind(one, other, value), value == told)


class LedOver(Case):

    def test_all_loads_are_led_to_all_loads(self):
        for one, other in SMALL_PAIRS:
            for room in (0, 1, 2):
                theirs = loads_by_ends(other.text, room)
                self.assertEqual(sorted(theirs), sorted(loads_by_ends(one.text, room)))
                for ends, loads in loads_by_ends(one.text, room).items():
                    told = [led_over(one, other, room, load) for load in loads]
                    self.assertEqual(sorted(told), theirs[ends])

    def test_each_end_bears_what_it_bore_each_other_road_what_its_road_does(self):
        chance = Random(34)
        for one, other in SMALL_PAIRS + LARGE[:80]:
            if len(one.roads) > 13:
                continue
            _, script, names = same_kind(one, other)
            for load in made_loads(one, 6, 3, chance):
                told = led_over(one, other, 6, load)
                self.assertIs(type(told), tuple)
                self.assertTrue(fits_plainly(other, 6, told))
                self.assertEqual(ends_plainly(other, told), ends_plainly(one, load))
                there = dict(zip(one.roads, led_load(one, 6, load, script)))
                self.assertEqual({its: there[road] for road, its in names},
                                 {road: told[other.roads.index(road)] for road in other.inner})

    def test_whatever_the_script_with_one_flip(self):
        cross, along = web_of('a b r', 'r c d'), web_of('s c a', 'b d s')
        for load in ((1, 1, 1, 1, 0), (1, 1, 1, 1, 2), (2, 1, 1, 2, 1)):
            self.assertEqual(led_over(cross, along, 2, load), load)

    def test_far_rooms(self):
        a, b, c, d = 5, 10 ** 11, 4, 10 ** 11 + 1
        numbers = range(10 ** 11 - 3, 10 ** 11 + 6, 2)
        loads = [(a, b, c, d, number) for number in numbers]
        for text in ('meet a c s\nmeet d b s', 'meet s d a\nmeet b c s', 'meet b a s\nmeet s c d'):
            other = Web('web\n' + text)
            told = [led_over(FOUR, other, MOST, load) for load in loads]
            self.assertEqual(len(set(told)), 5)
            for load in told:
                self.assertTrue(fits_plainly(other, MOST, load))
                self.assertEqual(load[:4], (a, b, c, d))

    def test_far_rooms_and_rounds(self):
        chance = Random(35)
        for one, other in SMALL_PAIRS:
            loads = [tuple(number * 10 ** 11 for number in load) for load in made_loads(one, 10, 8, chance)]
            told = [led_over(one, other, MOST, load) for load in loads]
            self.assertEqual(len(set(told)), len(set(loads)))
            for load, there in zip(loads, told):
                self.assertTrue(fits_plainly(other, MOST, there))
                self.assertEqual(ends_plainly(other, there), ends_plainly(one, load))

    def test_webs_of_all_sizes(self):
        for one, other in LARGE:
            for room in (0, 5):
                told = led_over(one, other, room, (0,) * len(one.roads))
                self.assertTrue(fits_plainly(other, room, told))
                self.assertEqual(ends_plainly(other, told), (0,) * len(one.ends))

    def test_unlike_webs(self):
        zeros = (0,) * 7
        for one, other, told in ((CHAIN, FOUR, ENDS), (PAIR, PRISM, ROUNDS), (LONE, LOOP, ENDS), (RING, CLIP, ENDS)):
            with self.assertRaises(Unlike) as caught:
                led_over(one, other, 3, zeros[:len(one.roads)])
            self.assertEqual(caught.exception.value, told)
            self.assertIs(type(caught.exception), Unlike)

    def test_wrong_arguments(self):
        for other in (TREE, LONE):
            for room in NO_ROOMS:
                for load in ((0, 0, 0, 0, 0), None):
                    self.refuse(BadRoom, room, led_over, FOUR, other, room, load)
            for load in (*ANY_VALUES, (1, 1, 1, 1, 1), (1, 1, 1, 1, 4), [0] * 5, (0, 0, 0), (True, 1, 1, 1, 0)):
                self.refuse(BadLoad, load, led_over, FOUR, other, 2, load)

    def test_the_load_is_one_of_the_first_web(self):
        one, other = web_of('a b r', 'r c d'), web_of('a c r', 'r b d')
        load = (2, 2, 0, 0, 0)
        self.assertTrue(fits_plainly(one, 2, load))
        self.assertFalse(fits_plainly(other, 2, load))
        self.assertEqual(led_over(one, other, 2, load), (2, 2, 0, 0, 2))
        self.refuse(BadLoad, load, led_over, other, one, 2, load)


class Conventions(Case):

    def test_equal_calls_return_equal_results(self):
        for one, other in LARGE[:60]:
            again, more = Web(one.text), Web(other.text)
            self.assertEqual(same_kind(one, other), same_kind(again, more))
            zeros = (0,) * len(one.roads)
            self.assertEqual(led_over(one, other, 4, zeros), led_over(again, more, 4, zeros))

    def test_nothing_changes_its_arguments(self):
        one, other, value = Web(PAIR.text), Web(THREE.text), ['led', [], []]
        shows_same_kind(one, other, value)
        same_kind(one, other)
        led_over(one, other, 2, (1, 2, 1))
        self.assertEqual([one, other, value], [PAIR, THREE, ['led', [], []]])
        self.assertEqual([one.junctions, other.junctions, one.roads], [PAIR.junctions, THREE.junctions, PAIR.roads])

    def test_kinds_of_what_is_told(self):
        for one, other in LARGE[:60]:
            told = same_kind(one, other)
            self.assertEqual([type(part) for part in told], [str, tuple, tuple])
            for road, way in told[1]:
                self.assertEqual([type(road), type(way)], [str, int])
            for row in told[1] + told[2]:
                self.assertIs(type(row), tuple)

    def test_doubled_loads(self):
        for one, other in SMALL_PAIRS[:30]:
            for load in all_loads(one.text, 1):
                told = led_over(one, other, 1, load)
                twice = tuple(2 * number for number in told)
                self.assertEqual(twice, led_over(one, other, 2, tuple(2 * number for number in load)))
                back = led_over(other, one, 2, twice)
                self.assertEqual(ends_plainly(one, back), ends_plainly(other, twice))

    def test_all_pairs_of_loads_and_of_rooms(self):
        for (one, other), room in product(SMALL_PAIRS[:8], (0, 1, 3)):
            told = {led_over(one, other, room, load) for load in all_loads(one.text, room)}
            self.assertEqual(told, set(all_loads(other.text, room)))

"""Section 4: webs."""

import re
import unittest
from collections import Counter
from itertools import combinations, permutations
from random import Random

from tests.samples import (
    ANY_VALUES, CHAIN, CLIP, DRUM, FOUR, LONE, LONG, LOOP, NO_STRINGS, PAIR, PRISM, RING, THREE,
    TREE, WEBS, made_webs, nested, row_of, web_of,
)
from threeroadcars.errors import BadNames, BadWeb
from threeroadcars.webs import Web, bridges, renamed, same_meets


def first_wrong(text):
    """The number that BadWeb is due to tell, found another way; None if there is none."""
    lines = text.split('\n')
    if lines[0] != 'web':
        return 1
    counts = Counter()
    for number, line in enumerate(lines[1:], 2):
        counts.update(line.split(' ')[1:])
        if not re.fullmatch('meet( [a-z]{1,6}){3}', line) or number > 13 or max(counts.values()) > 2:
            return number
    if len(lines) == 1:
        return 2
    together = parts_of([line.split(' ')[1:] for line in lines[1:]])
    for number, part in enumerate(together, 2):
        if part != together[0]:
            return number
    return None


def parts_of(rows, without=None):
    """For each row the least number of a row that it hangs together with."""
    parts = list(range(len(rows)))
    for _ in rows:
        for (one, these), (other, those) in combinations(enumerate(rows), 2):
            if (set(these) & set(those)) - {without}:
                parts[one] = parts[other] = min(parts[one], parts[other])
    return parts


class Refused(unittest.TestCase):

    def check(self, text, number):
        with self.subTest(text):
            with self.assertRaises(BadWeb) as caught:
                Web(text)
            self.assertEqual(caught.exception.value, number)
            self.assertIs(type(caught.exception.value), int)

    def test_no_strings(self):
        for value in NO_STRINGS:
            self.check(value, 0)

    def test_first_line(self):
        for first in ('', ' ', 'Web', 'web ', ' web', 'webs', 'we', 'meet a b c', 'web meet a b c', 'net'):
            self.check(first, 1)
            self.check(first + '\nmeet a b c', 1)
        self.check('\nweb\nmeet a b c', 1)

    def test_no_junction(self):
        self.check('web', 2)

    def test_wrong_forms(self):
        wrong = (
            '', ' ', 'meet', 'meet ', 'meet a', 'meet a b', 'meet a b c d', 'meet  a b c', 'meet a  b c',
            'meet a b  c', ' meet a b c', 'meet a b c ', 'Meet a b c', 'MEET a b c', 'met a b c', 'a b c',
            'meets a b c', 'web', 'meet a b C', 'meet A b c', 'meet a bB c', 'meet a b 1', 'meet a b c1',
            'meet 0 b c', 'meet abcdefg b c', 'meet a abcdefg c', 'meet a b abcdefg', 'meet a b c, d',
            'meet a,b,c', 'meet a b -', 'meet a b c_', 'meet a b .', 'meet a, b c', 'meet (a) b c', 'meet a b ',
            'meet  b c', 'meet a b c d e', 'flip a 1',
        )
        for line in wrong:
            self.check('web\n' + line, 2)
            self.check('web\nmeet a x y\n' + line, 3)
            self.check('web\n' + line + '\nmeet a x y', 2)

    def test_line_feed_at_the_end(self):
        self.check('web\n', 2)
        self.check('web\nmeet a b c\n', 3)
        self.check(TREE.text + '\n', 4)
        self.check('web\n\nmeet a b c', 2)
        self.check(LONG.text + '\n', 14)

    def test_third_standing(self):
        self.check('web\nmeet a a a', 2)
        self.check('web\nmeet a b c\nmeet a a d', 3)
        self.check('web\nmeet a a b\nmeet b a c', 3)
        self.check('web\nmeet a b c\nmeet a d e\nmeet f g a', 4)
        self.check('web\nmeet a b c\nmeet d e f\nmeet c g d\nmeet h i c', 5)
        self.check('web\nmeet a b c\nmeet a b c\nmeet a b c', 4)

    def test_twelve_junctions_and_a_thirteenth(self):
        self.assertEqual(len(Web(row_of(12))), 12)
        self.check(row_of(13), 14)
        self.check(row_of(14), 14)
        self.check(row_of(12) + '\nmeet a b', 14)
        self.check(row_of(12) + '\nmeet x y z', 14)

    def test_not_hanging_together(self):
        self.check('web\nmeet a b c\nmeet d e f', 3)
        self.check('web\nmeet a b c\nmeet d e f\nmeet c g h', 3)
        self.check('web\nmeet a b c\nmeet c d e\nmeet f g h\nmeet e i j', 4)
        self.check('web\nmeet a b c\nmeet f g h\nmeet e i g\nmeet c d e\nmeet k l m', 6)
        self.check('web\nmeet a b b\nmeet c d d', 3)
        self.check('web\nmeet a b c\nmeet d e f\nmeet d e f\nmeet a b c', 3)
        self.check('web\nmeet a b c\nmeet d e f\nmeet f g h\nmeet h i j', 3)

    def test_what_hangs_together_by_later_lines_alone(self):
        web = web_of('a b c', 'd e f', 'g h i', 'c f g')
        self.assertEqual([web.rounds, web.inner], [0, ('c', 'f', 'g')])

    def test_several_faults(self):
        self.check('net\nmeet a b', 1)
        self.check('web\nmeet a b c\nmeet d e f\nmeet g h', 4)
        self.check('web\nmeet a b c\nmeet d e f\nmeet a a g', 4)
        self.check('web\nmeet a b c\nmeet a b\nmeet a a a', 3)
        self.check('web\nmeet a a a\nmeet b c', 2)
        self.check('web\nmeet a b c\nmeet d e f\n', 4)
        self.check('web\nmeet x y z\n' + row_of(12)[4:], 14)
        self.check('web\nmeet x y z\n' + row_of(11)[4:], 3)

    def test_texts_with_chance_faults(self):
        chance, wrong, right = Random(4), 0, 0
        for web in made_webs(300, 5) + made_webs(100, 6, most=3):
            for _ in range(10):
                text = spoilt(web.text, chance)
                number = first_wrong(text)
                if number is None:
                    self.assertEqual(Web(text).text, text)
                    right += 1
                else:
                    self.check(text, number)
                    wrong += 1
        self.assertGreater(min(wrong, right), 500)


def spoilt(text, chance):
    """A text with some lines put, doubled, left out, or a sign of it changed."""
    for _ in range(chance.randint(1, 2)):
        lines = text.split('\n')
        at, to = chance.randrange(len(lines)), chance.randrange(len(lines))
        place = chance.randrange(len(text) + 1)
        text = chance.choice((
            text[:place] + chance.choice('abcxyz \nA1') + text[place:],
            text[:place] + text[place + 1:],
            text[:place] + chance.choice('abcxyz \n-') + text[place + 1:],
            '\n'.join(lines[:at] + lines[at + 1:]),
            '\n'.join(lines[:at] + [lines[to]] + lines[at:]),
            '\n'.join(lines + ['meet k l ' + chance.choice('abcdefgh')]),
            '\n'.join(lines[:1] + chance.sample(lines[1:], len(lines) - 1)),
        ))
    return text


class Properties(unittest.TestCase):

    def check(self, web, roads, inner, ends, rounds):
        self.assertEqual([web.roads, web.inner, web.ends], [tuple(names.split()) for names in (roads, inner, ends)])
        self.assertEqual(web.rounds, rounds)

    def test_webs(self):
        self.check(LONE, 'a b c', '', 'a b c', 0)
        self.check(FOUR, 'a b c d r', 'r', 'a b c d', 0)
        self.check(LOOP, 'r s', 'r', 's', 1)
        self.check(THREE, 'a b c', 'a b c', '', 2)
        self.check(PAIR, 'a b c', 'a b c', '', 2)
        self.check(CLIP, 'a b p q', 'p q', 'a b', 1)
        self.check(CHAIN, 'a b c d e f g', 'b c d e f', 'a g', 2)
        self.check(PRISM, 'a b c d e f x y z', 'a b c d e f x y z', '', 4)

    def test_junctions_as_they_stand(self):
        self.assertEqual(web_of('z a m', 'm y z').junctions, (('z', 'a', 'm'), ('m', 'y', 'z')))
        self.assertEqual(web_of('z b a').junctions, (('z', 'b', 'a'),))
        self.assertEqual(web_of('o x o').junctions, (('o', 'x', 'o'),))

    def test_names_of_one_and_six_letters(self):
        web = web_of('abcdef z zzzzzz', 'web meet z')
        self.assertEqual(web.roads, ('abcdef', 'meet', 'web', 'z', 'zzzzzz'))
        self.assertEqual(web.inner, ('z',))
        self.assertEqual(web_of('b ab aa').roads, ('aa', 'ab', 'b'))

    def test_roads_that_meet_themselves(self):
        for line in ('o o x', 'o x o', 'x o o'):
            web = web_of(line)
            self.assertEqual([web.inner, web.ends, web.rounds, bridges(web)], [('o',), ('x',), 1, ()])

    def test_text_and_length(self):
        for web in WEBS:
            self.assertEqual(len(web), web.text.count('\n'))
            self.assertEqual(len(web), len(web.junctions))
            self.assertEqual(Web(web.text).text, web.text)

    def test_kinds(self):
        for web in WEBS:
            self.assertEqual({type(each) for each in (web.roads, web.inner, web.ends, web.junctions)}, {tuple})
            self.assertEqual({type(words) for words in web.junctions}, {tuple})
            self.assertIs(type(web.rounds), int)

    def test_numbers_of_all_webs(self):
        for web in [*WEBS, *made_webs(300, 7)]:
            ends, inner, rounds, size = len(web.ends), len(web.inner), web.rounds, len(web)
            self.assertEqual(ends + 2 * inner, 3 * size)
            self.assertEqual(size, ends + 2 * rounds - 2)
            self.assertEqual(inner, ends + 3 * rounds - 3)
            self.assertEqual(web.roads, tuple(sorted(web.inner + web.ends)))
            words = [road for words in web.junctions for road in words]
            self.assertEqual(web.ends, tuple(sorted(road for road in words if words.count(road) == 1)))
            self.assertEqual(web.text, '\n'.join(['web'] + ['meet ' + ' '.join(words) for words in web.junctions]))


class Equal(unittest.TestCase):

    def test_equal_webs(self):
        for web in WEBS:
            again = Web(web.text)
            self.assertIs(web == again, True)
            self.assertIs(web != again, False)
            self.assertIs(web == web, True)

    def test_unlike_webs(self):
        for one, other in permutations(WEBS, 2):
            self.assertIs(one == other, False)
            self.assertIs(one != other, True)
        self.assertIs(web_of('a b c') == web_of('b a c'), False)
        self.assertIs(web_of('a b r', 'r c d') != web_of('r c d', 'a b r'), True)

    def test_values_of_other_kinds(self):
        for value in (*ANY_VALUES, LONE.text, LONE.junctions, (LONE,), [LONE]):
            if value is not LONE:
                self.assertIs(LONE == value, False)
                self.assertIs(value == LONE, False)
                self.assertIs(LONE != value, True)
                self.assertIs(value != LONE, True)

    def test_equal_calls(self):
        for web in WEBS:
            again = Web(web.text)
            self.assertEqual(bridges(web), bridges(again))
            self.assertEqual(bridges(web), bridges(web))
            self.assertEqual(renamed(web, web.roads), again)


class Bridges(unittest.TestCase):

    def test_webs(self):
        told = (
            (TREE, 'r'), (FOUR, 'r'), (RING, ''), (DRUM, ''), (LOOP, ''), (PAIR, 'b'), (LONE, ''),
            (THREE, ''), (CLIP, ''), (CHAIN, 'b c'), (PRISM, ''),
        )
        for web, names in told:
            self.assertEqual(bridges(web), tuple(names.split()))
        self.assertEqual(bridges(LONG), LONG.inner)

    def test_rounds_between_bridges(self):
        web = web_of('z a b', 'z m n', 'm n k', 'k o p', 'o p l', 'l q q')
        self.assertEqual(bridges(web), ('k', 'l', 'z'))

    def test_two_roads_between_the_same_junctions_are_none(self):
        self.assertEqual(bridges(web_of('a p q', 'p b q')), ())
        self.assertEqual(bridges(web_of('a p q', 'p s t', 'q s t')), ())

    def test_all_webs_against_taking_the_road_out(self):
        for web in made_webs(200, 8):
            found = []
            for road in web.inner:
                rows = [set(words) for words in web.junctions]
                if set(parts_of(rows, road)) != {0}:
                    found.append(road)
            self.assertEqual(bridges(web), tuple(found))


class Renamed(unittest.TestCase):

    def check_refused(self, web, value):
        with self.subTest(value=value):
            with self.assertRaises(BadNames) as caught:
                renamed(web, value)
            self.assertIs(caught.exception.value, value)

    def test_right_names(self):
        self.assertEqual(renamed(TREE, ('z', 'y', 'x', 'w', 'a')).text, 'web\nmeet z y a\nmeet a x w')
        self.assertEqual(renamed(DRUM, ('x', 'o')).text, 'web\nmeet o x x')
        self.assertEqual(renamed(LONE, ('abcdef', 'ab', 'c')), web_of('abcdef ab c'))
        self.assertEqual(renamed(LONE, ('b', 'c', 'a')), web_of('b c a'))
        self.assertIsInstance(renamed(LONE, ('b', 'c', 'a')), Web)

    def test_the_web_stays(self):
        web, names = Web(TREE.text), ('z', 'y', 'x', 'w', 'a')
        renamed(web, names)
        self.assertEqual([web, web.roads, web.junctions], [TREE, TREE.roads, TREE.junctions])

    def test_there_and_back(self):
        for web in made_webs(100, 9):
            names = tuple('n' + chr(97 + number) for number in range(len(web.roads)))[::-1]
            other = renamed(web, names)
            self.assertEqual(other.roads, tuple(sorted(names)))
            self.assertEqual(other.rounds, web.rounds)
            self.assertEqual(renamed(other, web.roads[::-1]), web)

    def test_wrong_names(self):
        wrong = (
            ('a', 'b'), ('a', 'b', 'c', 'd'), (), ('a', 'b', 'a'), ('a', 'a', 'a'), ('a', 'b', 'abcdefg'),
            ('a', 'b', ''), ('a', 'b', 'C'), ('a', 'b', 'c1'), ('a', 'b', '1'), ('a', 'b', ' '), ('a', 'b', 'c '),
            ('a', 'b', '-'), ('a', 'b', 'c d'), ('a', 'b', 'c\n'), ['a', 'b', 'c'], 'abc', ('a', 'b', ('c',)),
            ('a', 'b', ['c']), ('a', 'b', {'c': 1}), ('a', 'b', None), ('a', 'b', 1), ('a', 'b', True), (1, 2, 3),
            ('a', 'b', LONE), (('a', 'b', 'c'),), [('a', 'b', 'c')], {'a': 1, 'b': 2, 'c': 3}, None, LONE,
            ('a', 'b', nested(29)), nested(30), ([], [], []),
        )
        for value in wrong + ANY_VALUES:
            self.check_refused(LONE, value)

    def test_names_are_as_many_as_roads_not_as_words(self):
        self.check_refused(TREE, ('a', 'b', 'c', 'd', 'e', 'f'))
        self.check_refused(THREE, ('a', 'b', 'c', 'd', 'e', 'f'))
        self.assertEqual(renamed(THREE, ('a', 'b', 'd')), web_of('a b d', 'b d a'))


class SameMeets(unittest.TestCase):

    def check(self, one, other, told):
        self.assertIs(same_meets(one, other), told)
        self.assertIs(same_meets(other, one), told)

    def test_other_sequences(self):
        for words in permutations(('a', 'b', 'r')):
            self.check(FOUR, web_of(' '.join(words), 'r d c'), True)
            self.check(FOUR, web_of('r d c', ' '.join(words)), True)
        self.check(DRUM, web_of('o x o'), True)
        self.check(THREE, web_of('c a b', 'b a c'), True)
        self.check(PAIR, web_of('c b c', 'a b a'), True)

    def test_other_webs(self):
        self.check(FOUR, web_of('a c r', 'b d r'), False)
        self.check(FOUR, web_of('a b s', 's c d'), False)
        self.check(LONE, web_of('a b d'), False)
        self.check(DRUM, web_of('x x o'), False)
        self.check(web_of('a a b', 'b c c'), web_of('a c b', 'a c b'), False)

    def test_another_number_of_lines(self):
        self.check(LONE, web_of('a b c', 'c d e'), False)
        self.check(web_of('a b c', 'c d e'), web_of('a b c', 'c d e', 'e f g'), False)
        self.check(LONE, LONG, False)

    def test_made_webs(self):
        chance = Random(10)
        for web in made_webs(100, 11):
            lines = [chance.sample(words, 3) for words in chance.sample(web.junctions, len(web))]
            self.check(web, web_of(*[' '.join(words) for words in lines]), True)
            names = tuple('n' + chr(97 + number) for number in range(len(web.roads)))
            self.check(web, renamed(web, names), False)

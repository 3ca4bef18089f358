"""Section 16: a desk."""

from random import Random

from tests.case import Case
from tests.samples import (
    ANY_VALUES, CHAIN, FOUR, LONE, LONG, LOOP, NO_STRINGS, PRISM, RING, THREE, WEBS, made_webs, nested, row_of,
)
from threeroadcars.bench import Bench
from threeroadcars.counting import count
from threeroadcars.desk import Desk
from threeroadcars.errors import (
    BadEnd, BadJournal, BadLoad, BadName, BadNames, BadRoad, BadRoads, BadRoom, BadWay, BadWords, Borne, Bridge, Full,
    Lone, NoInner, NoRoad, NothingToRedo, NothingToUndo, Tight, Unequal, WebError,
)
from threeroadcars.journals import journal, read_journal
from threeroadcars.lots import borne, least_room, some_load
from threeroadcars.webs import Web

MOST = 10 ** 12
START = 'bench 2\nweb\nmeet a b r\nmeet c d r'


def desk_with(web, room, load):
    desk = Desk(f'bench {room}\n{web.text}')
    desk.bench.put(load)
    return desk


class DeskCase(Case):

    def raises(self, desk, error, value, line):
        """A line raises this error, and changes nothing."""
        ahead = journal(desk.bench)
        with self.subTest(line=line):
            with self.assertRaises(error) as caught:
                desk.say(line)
            self.assertIs(type(caught.exception), error)
            self.assertEqual([caught.exception.value, type(caught.exception.value)], [value, type(value)])
            self.assertEqual(journal(desk.bench), ahead)

    def says(self, desk, line, answer):
        told = desk.say(line)
        self.assertEqual([type(told), told], [str, answer])


class Beginning(DeskCase):

    def test_a_journal(self):
        text = START + '\nput 1 1 1 1 2\nflip r 1'
        desk = Desk(text)
        self.assertIs(type(desk.bench), Bench)
        self.assertEqual(desk.bench, read_journal(text))
        self.assertEqual(Desk(text=text).bench, desk.bench)
        self.assertIs(desk.bench, desk.bench)

    def test_no_journal(self):
        for text in NO_STRINGS:
            self.refuse_text(text, 0)
        for text, number in (('', 1), ('bench 2', 2), ('bench -1\nweb', 1), ('bench 2\nweb\nundo', 3), (START + '\n', 5),
                             (START + '\nput 1', 5), (START + '\nwiden 3\nredo', 6), (START + '\nload', 5)):
            self.refuse_text(text, number)

    def refuse_text(self, text, number):
        with self.assertRaises(BadJournal) as caught:
            Desk(text)
        self.assertEqual([caught.exception.value, type(caught.exception.value)], [number, int])


class Deeds(DeskCase):

    def test_all_deeds(self):
        desk, plain = Desk(START), Bench(FOUR.text, 2)
        for line, deed, given in (
                ('put 1 1 1 1 2', 'put', ((1, 1, 1, 1, 2),)), ('flip r 1', 'flip', ('r', 1)), ('widen 5', 'widen', (5,)),
                ('switch a c', 'switch', (('a', 'c'),)), ('switch', 'switch', ((),)), ('hang r s e', 'hang', ('r', 's', 'e')),
                ('take e', 'take', ('e',)), ('undo', 'undo', ()), ('undo', 'undo', ()), ('redo', 'redo', ()),
                ('redo', 'redo', ()), ('join a c q', 'join', ('a', 'c', 'q')), ('part q x c', 'part', ('q', 'x', 'c')),
                ('put 0 0 0 0 0', 'put', ((0,) * 5,)), ('widen 0', 'widen', (0,))):
            self.says(desk, line, 'ok')
            getattr(plain, deed)(*given)
            self.assertEqual(desk.bench, plain)
            self.assertEqual([desk.bench.web, desk.bench.room, desk.bench.load, desk.bench.done],
                             [plain.web, plain.room, plain.load, plain.done])

    def test_what_the_bench_raises(self):
        desk = desk_with(FOUR, 4, (1, 1, 0, 2, 2))
        for line, error, value in (
                ('flip a 1', BadRoad, 'a'), ('flip zz 7', BadRoad, 'zz'), ('flip r 3', BadWay, 3), ('flip r -1', BadWay, -1),
                ('put', BadLoad, ()), ('put 1', BadLoad, (1,)), ('put 1 1 1 1 1', BadLoad, (1, 1, 1, 1, 1)),
                ('put -1 0 0 0 0', BadLoad, (-1, 0, 0, 0, 0)), ('widen -1', BadRoom, -1),
                ('widen 1000000000001', BadRoom, MOST + 1), ('widen 1', Tight, 2), ('switch a', BadRoads, ('a',)),
                ('switch b a', BadRoads, ('b', 'a')), ('switch 1 2', BadRoads, ('1', '2')), ('hang x m n', NoRoad, 'x'),
                ('hang r m m', BadNames, ('m', 'm')), ('hang r M 1', BadNames, ('M', '1')), ('take r', BadEnd, 'r'),
                ('take 1', BadEnd, '1'), ('take a', Borne, 1), ('take d', Borne, 2), ('join r a q', BadEnd, 'r'),
                ('join a a q', BadEnd, 'a'), ('join a b Q', BadName, 'Q'), ('join a b c', BadName, 'c'),
                ('join a d q', Unequal, (1, 2)), ('part a m n', NoInner, 'a'), ('part r m m', BadNames, ('m', 'm')),
                ('part r m n', Bridge, 'r'), ('borne x', NoRoad, 'x'), ('borne 1', NoRoad, '1'),
                ('borne undo', NoRoad, 'undo'), ('redo', NothingToRedo, None)):
            self.raises(desk, error, value, line)
        fresh = Desk(START)
        self.raises(fresh, NothingToUndo, None, 'undo')
        self.raises(fresh, NothingToRedo, None, 'redo')
        self.raises(Desk(f'bench 1\n{LONE.text}'), Lone, 'a', 'take a')
        self.raises(Desk(f'bench 1\n{LONG.text}'), Full, 12, 'hang ra m n')
        self.raises(Desk(f'bench 61\n{RING.text}'), BadRoom, 61, 'count')


class Answers(DeskCase):

    def test_web(self):
        self.says(Desk(START), 'web', 'meet a b r; meet c d r')
        self.says(Desk(f'bench 0\n{LONE.text}'), 'web', 'meet a b c')
        self.says(Desk(f'bench 0\n{LONG.text}'), 'web', '; '.join(LONG.text.split('\n')[1:]))

    def test_load_and_room(self):
        desk = desk_with(FOUR, MOST, (MOST, 7, MOST, 7, MOST - 7))
        self.says(desk, 'load', f'a={MOST} b=7 c={MOST} d=7 r={MOST - 7}')
        self.says(desk, 'room', str(MOST))
        self.says(Desk(f'bench 0\n{LOOP.text}'), 'load', 'r=0 s=0')
        self.says(Desk(f'bench 0\n{LOOP.text}'), 'room', '0')

    def test_count_borne_and_least(self):
        desk = desk_with(FOUR, 4, (2, 2, 1, 1, 2))
        self.says(desk, 'count', '2')
        self.says(desk, 'borne r', '0 2 2')
        self.says(desk, 'borne a', '2 2 2')
        self.says(desk, 'least', 'room 2')
        self.says(desk_with(LONE, 3, (2, 2, 2)), 'least', 'room 3')
        self.says(desk_with(RING, 9, (5, 7, 4, 5)), 'least', 'room 5')
        self.says(desk_with(RING, 9, (5, 7, 4, 5)), 'borne q', '0 9 1')
        self.says(Desk(f'bench 5\n{THREE.text}'), 'least', 'room 0')
        self.says(Desk(f'bench 5\n{THREE.text}'), 'count', '56')
        most = desk_with(LONE, 3 * MOST // 4, (MOST // 2,) * 3)
        self.says(most, 'least', f'room {3 * MOST // 4}')

    def test_as_the_functions_tell(self):
        chance = Random(181)
        for web in (*WEBS, CHAIN, PRISM, *made_webs(25, 182)):
            room = chance.choice((2, 6, 60))
            told = some_load(web, room, tuple(2 * chance.randint(0, room // 2) for _ in web.ends))
            desk = desk_with(web, room, told[1] if told[0] == 'load' else (0,) * len(web.roads))
            bench = desk.bench
            self.says(desk, 'web', '; '.join('meet ' + ' '.join(words) for words in web.junctions))
            self.says(desk, 'load', ' '.join(f'{road}={number}' for road, number in zip(web.roads, bench.load)))
            self.says(desk, 'room', str(room))
            self.says(desk, 'count', str(count(web, room, bench.ends)))
            for road in web.roads:
                self.says(desk, f'borne {road}', ' '.join(map(str, borne(web, room, bench.ends, road))))
            word, least = least_room(web, bench.ends)
            self.assertEqual(word, 'room')
            self.says(desk, 'least', f'room {least}')

    def test_asking_changes_nothing(self):
        desk = Desk(START + '\nput 1 1 1 1 2\nwiden 3')
        desk.say('undo')
        ahead = journal(desk.bench)
        for line in ('web', 'load', 'room', 'count', 'borne a', 'least'):
            self.assertEqual(desk.say(line), desk.say(line))
        self.assertEqual(journal(desk.bench), ahead)
        self.says(desk, 'redo', 'ok')
        self.says(desk, 'room', '3')


class Words(DeskCase):

    def test_lines_of_no_form(self):
        desk = Desk(START)
        for line in ('', ' ', 'x', 'web ', ' web', 'Web', 'webs', 'web a', 'load r', 'load ', 'room 3', 'count ', 'count 1',
                     'borne', 'borne ', 'borne a b', 'borne  r', 'borne r ', ' borne r', 'least 1', 'undo 1', 'undo ',
                     'redo ', 'undo undo', 'flip', 'flip r', 'flip r one', 'flip r 1 1', 'flip  r 1', 'flip r 1 ',
                     'flip r 01', 'flip r +1', 'flip r 1_0', 'flip r -0', 'flip r True', 'widen', 'widen r', 'widen 007',
                     'widen 1.0', 'widen 3 3', 'put ', 'put  1', 'put 1 a', 'put 1 1 1 1 02', 'put 1,1', 'switch ',
                     'switch a  c', 'hang r s', 'hang r s e f', 'hang', 'take', 'take ', 'take a b', 'join a b',
                     'join a b q r', 'part r m', 'part r m n o', 'bench 2', 'meet a b c', 'journal', 'keep', 'tried',
                     'copy', 'trial', 'done', 'ends', '5', 'ok', 'load\t', 'load;web'):
            self.raises(desk, BadWords, line, line)

    def test_line_feeds(self):
        desk = Desk(START)
        for line in ('web\n', '\nweb', 'web\nload', 'widen 3\n', 'widen\n3', 'flip r\n1', 'switch\n', '\n', 'borne r\n',
                     'borne \n', 'switch a\nb', 'take a\n', 'hang r s\n e'):
            self.raises(desk, BadWords, line, line)

    def test_no_strings(self):
        desk = Desk(START)
        for line in (*[value for value in ANY_VALUES if not isinstance(value, str)], ['web'], ('web',), {'web': 1},
                     nested(30), desk.bench, FOUR):
            with self.assertRaises(BadWords) as caught:
                desk.say(line)
            self.assertIs(type(caught.exception), BadWords)
            self.assertIs(caught.exception.value, line)

    def test_the_very_line(self):
        line = ' '.join(['what', 'is', 'this'])
        self.refuse(BadWords, line, Desk(START).say, line)


class TheVeryBench(DeskCase):

    def test_deeds_done_on_it_show_in_what_the_desk_says(self):
        desk = Desk(START)
        bench = desk.bench
        bench.put((1, 1, 1, 1, 2))
        self.says(desk, 'load', 'a=1 b=1 c=1 d=1 r=2')
        bench.hang('r', 's', 'e')
        self.says(desk, 'web', 'meet a b r; meet c d s; meet r s e')
        bench.undo()
        self.says(desk, 'redo', 'ok')
        self.assertEqual(bench.done, 2)
        self.assertIs(desk.bench, bench)

    def test_deeds_said_show_in_it(self):
        desk = Desk(START)
        bench = desk.bench
        desk.say('put 1 1 1 1 2')
        desk.say('flip r 1')
        self.assertEqual([bench.web, bench.load, bench.done], [Web('web\nmeet a c r\nmeet b d r'), (1, 1, 1, 1, 2), 2])
        self.assertEqual(journal(bench), START + '\nput 1 1 1 1 2\nflip r 1')
        desk.say('undo')
        self.assertEqual([bench.web, bench.done], [FOUR, 1])

    def test_within_a_block(self):
        desk = Desk(START)
        with desk.bench.trial():
            self.says(desk, 'widen 9', 'ok')
            self.says(desk, 'room', '9')
        self.says(desk, 'room', '2')
        self.raises(desk, NothingToRedo, None, 'redo')
        with desk.bench.trial() as held:
            desk.say('widen 9')
            held.keep()
        self.says(desk, 'room', '9')

    def test_desks_are_independent(self):
        one, other = Desk(START), Desk(START)
        one.say('widen 7')
        self.says(other, 'room', '2')
        self.assertIsNot(one.bench, other.bench)

    def test_rows_of_said_deeds_are_read_back(self):
        chance = Random(183)
        for web in (*WEBS, *made_webs(25, 184), Web(row_of(11))):
            desk = Desk(f'bench {chance.choice((0, 3, 60))}\n{web.text}')
            for _ in range(40):
                roads, names = desk.bench.web.roads, ['x', 'y', 'zz', 'abcdef', 'A']
                line = chance.choice((
                    f'flip {chance.choice(roads)} {chance.choice((1, 2))}', f'widen {chance.randint(0, 9)}', 'undo', 'redo',
                    f'hang {chance.choice(roads)} {chance.choice(names)} {chance.choice(names)}', 'switch',
                    f'take {chance.choice(roads)}', f'part {chance.choice(roads)} x y',
                    f'join {chance.choice(roads)} {chance.choice(roads)} {chance.choice(names)}', 'count', 'web', 'x'))
                ahead = journal(desk.bench)
                try:
                    desk.say(line)
                except WebError:
                    self.assertEqual(journal(desk.bench), ahead)
            self.assertEqual(Desk(journal(desk.bench)).bench, desk.bench)
            self.assertEqual(Desk(journal(desk.bench)).say('load'), desk.say('load'))

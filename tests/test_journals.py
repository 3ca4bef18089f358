"""Section 16: journals."""

from random import Random

from tests.case import Case
from tests.samples import ANY_VALUES, CHAIN, FOUR, LONE, LONG, NO_STRINGS, PRISM, WEBS, made_webs, row_of
from threeroadcars.bench import Bench
from threeroadcars.errors import BadJournal, BadWeb, NothingToRedo, WebError
from threeroadcars.journals import journal, read_journal
from threeroadcars.webs import Web

BEGINNING = ['bench 4', 'web', 'meet a b r', 'meet c d r']
DEEDS = ['put 1 1 1 1 2', 'flip r 1', 'widen 5', 'switch a c', 'hang r s e', 'take e', 'join a c q', 'part q a c',
         'switch', 'put 0 0 0 0 0', 'flip r 2', 'widen 0']
WHOLE = BEGINNING + DEEDS
NO_NUMBERS = ('', '+1', '1_0', '-0', '007', '01', '00', '0x1', '1.0', '1e3', 'one', 'True', 'None', '--1', '-', '-01', '1,',
              "'1'", '(1,)')


def lines_read(*lines):
    return read_journal('\n'.join(lines))


class JournalCase(Case):

    def refuse_at(self, number, *lines):
        with self.subTest(lines=lines):
            with self.assertRaises(BadJournal) as caught:
                lines_read(*lines)
            self.assertIs(type(caught.exception), BadJournal)
            self.assertEqual([caught.exception.value, type(caught.exception.value)], [number, int])


class ThereAndBack(JournalCase):

    def test_all_kinds_of_deeds(self):
        for many in range(len(WHOLE) - len(BEGINNING) + 1):
            text = '\n'.join(WHOLE[:len(BEGINNING) + many])
            bench = read_journal(text)
            self.assertEqual([type(bench), bench.done, journal(bench)], [Bench, many, text])
            with self.assertRaises(NothingToRedo):
                bench.redo()

    def test_where_the_deeds_led(self):
        bench = lines_read(*WHOLE[:9])
        self.assertEqual([bench.web.text, bench.room, bench.load],
                         ['web\nmeet a c r\nmeet b d s\nmeet r s e', 5, (4, 1, 4, 1, 0, 2, 2)])
        self.assertEqual(lines_read(*WHOLE).load, (0,) * 5)

    def test_done_by_hand(self):
        bench = Bench('\n'.join(BEGINNING[1:]), 4)
        bench.put((1, 1, 1, 1, 2))
        bench.flip('r', 1)
        bench.widen(5)
        bench.switch(('a', 'c'))
        bench.hang('r', 's', 'e')
        bench.take('e')
        bench.undo()
        bench.redo()
        bench.switch(('b', 'd'))
        bench.undo()
        self.assertEqual(journal(bench).split('\n'), WHOLE[:10])
        self.assertEqual(lines_read(*WHOLE[:10]), bench)
        bench.undo()
        self.assertEqual(journal(bench).split('\n'), WHOLE[:9])
        self.assertEqual(read_journal(text=journal(bench=bench)), bench)

    def test_what_was_taken_back_does_not_stand(self):
        bench = lines_read(*WHOLE)
        for many in range(len(WHOLE), len(BEGINNING), -1):
            self.assertEqual(journal(bench).split('\n'), WHOLE[:many])
            bench.undo()
        self.assertEqual(journal(bench).split('\n'), BEGINNING)
        bench.redo()
        self.assertEqual(journal(bench).split('\n'), WHOLE[:5])

    def test_within_blocks(self):
        bench = lines_read(*BEGINNING)
        with bench.trial():
            bench.widen(7)
            self.assertEqual(journal(bench).split('\n'), [*BEGINNING, 'widen 7'])
        self.assertEqual(journal(bench).split('\n'), BEGINNING)

    def test_rows_of_drawn_deeds(self):
        chance = Random(171)
        for web in (*WEBS, *made_webs(30, 172)):
            bench = Bench(web.text, chance.choice((0, 3, 60, 10 ** 12)))
            for _ in range(25):
                roads, names = bench.web.roads, ['x', 'y', 'zz', 'abcdef']
                deed = chance.choice((
                    ('flip', chance.choice(roads), chance.choice((1, 2))), ('widen', chance.randint(0, 9)),
                    ('hang', chance.choice(roads), *chance.sample(names, 2)), ('take', chance.choice(roads)),
                    ('part', chance.choice(roads), *chance.sample(names, 2)),
                    ('join', *chance.sample(roads * 2, 2), chance.choice(names)), ('put', (0,) * len(roads)),
                    ('switch', ()), ('undo',), ('redo',)))
                try:
                    getattr(bench, deed[0])(*deed[1:])
                except WebError:
                    pass
            again = read_journal(journal(bench))
            self.assertTrue(again == bench)
            self.assertEqual([again.web, again.room, again.load, again.done, journal(again)],
                             [bench.web, bench.room, bench.load, bench.done, journal(bench)])

    def test_web_lines_stay_as_they_stand(self):
        for web in WEBS:
            for room in (0, 10 ** 12):
                self.assertEqual(journal(Bench(web.text, room)), f'bench {room}\n{web.text}')
                self.assertEqual(read_journal(f'bench {room}\n{web.text}').web, web)

    def test_equal_calls_return_equal_results(self):
        self.assertTrue(lines_read(*WHOLE) == lines_read(*WHOLE))
        self.assertIsNot(lines_read(*WHOLE), lines_read(*WHOLE))
        bench = lines_read(*WHOLE)
        self.assertEqual(journal(bench), journal(bench))
        self.assertEqual(journal(bench.copy()), journal(bench))


class FirstLine(JournalCase):

    def test_no_string(self):
        for text in NO_STRINGS:
            with self.assertRaises(BadJournal) as caught:
                read_journal(text)
            self.assertEqual(caught.exception.value, 0)

    def test_no_room(self):
        for room in (*NO_NUMBERS, '-1', '1000000000001', '9999999999999', '-10', '4 4', '4 '):
            self.refuse_at(1, f'bench {room}', *WHOLE[1:])
            self.refuse_at(1, f'bench {room}')
        for line in ('', 'bench', 'Bench 4', ' bench 4', 'bench  4', 'bench 4 ', 'web', 'meet a b r', 'put 4', 'bench4',
                     'widen 4', 'benches 4', '4', '4 bench', 'bench\t4'):
            self.refuse_at(1, line, *WHOLE[1:])
            self.refuse_at(1, line)
        for room in (0, 1, 10 ** 12):
            self.assertEqual(lines_read(f'bench {room}', *BEGINNING[1:]).room, room)

    def test_text_without_signs(self):
        self.refuse_at(1, '')
        self.refuse_at(1, '', '')


class WebLines(JournalCase):

    def test_what_web_refuses(self):
        wrong = (('',), ('web',), ('web', ''), ('web', 'meet a a a'), ('web', 'meet a b'), ('web', 'meet a b c d'),
                 ('Web', 'meet a b c'), ('meet a b c',), ('web', 'meet a b c', 'meet d e f'), ('web', 'meet a b c', ''),
                 ('web', 'meet a b c', 'meet a b d', 'meet a e f'), ('web', 'meet a  b c'), ('web', 'meet a b c '),
                 ('web', ' meet a b c'), ('web ', 'meet a b c'), ('web', 'meet a b c', 'web'), ('web', 'meet A b c'),
                 ('web', 'meet a b c', 'meet c d e', 'meet f g h', 'meet f i j'), ('web', 'meet a b c', 'undo'),
                 ('web', 'meet a b c', 'redo'), ('web', 'meet a b c', 'puts 1'), ('web', 'meet a b c', ' put 0 0 0'))
        for lines in wrong:
            with self.assertRaises(BadWeb) as caught:
                Web('\n'.join(lines))
            self.refuse_at(caught.exception.value + 1, 'bench 4', *lines)
            if not lines[-1].startswith(('undo', 'redo')):
                self.refuse_at(caught.exception.value + 1, 'bench 4', *lines, 'widen 5')

    def test_lines_that_lack(self):
        self.refuse_at(2, 'bench 4')
        self.refuse_at(3, 'bench 4', 'web')
        for word in ('flip', 'put', 'widen', 'switch', 'hang', 'take', 'join', 'part'):
            for line in (word, word + ' ', word + ' 1', word + ' a b c'):
                self.refuse_at(2, 'bench 4', line)
                self.refuse_at(2, 'bench 4', line, *BEGINNING[1:])
                self.refuse_at(3, 'bench 4', 'web', line)
                self.refuse_at(3, 'bench 4', 'web', line, 'meet a b c')

    def test_a_thirteenth_junction(self):
        text = row_of(13).split('\n')
        self.refuse_at(15, 'bench 4', *text)
        self.refuse_at(15, 'bench 4', *text, 'put 0')
        self.assertEqual(len(lines_read('bench 4', *row_of(12).split('\n')).web), 12)

    def test_a_web_that_does_not_hang_together(self):
        self.refuse_at(5, 'bench 4', 'web', 'meet a b c', 'meet c d e', 'meet f g h', 'meet f i j', 'put')
        self.refuse_at(4, 'bench 4', 'web', 'meet a b c', 'meet d e f', 'put 0 0 0 0 0 0')

    def test_undo_and_redo_are_no_lines(self):
        self.refuse_at(3, 'bench 2', 'web', 'undo')
        for word in ('undo', 'redo'):
            self.refuse_at(5, *BEGINNING, word)
            self.refuse_at(6, *BEGINNING, 'widen 5', word)
            self.refuse_at(6, *BEGINNING, 'widen 5', word, 'widen 6')
            self.refuse_at(2, 'bench 2', word)


class DeedLines(JournalCase):

    def test_lines_of_no_form(self):
        for line in ('', ' ', 'web', 'meet a b r', 'bench 4', 'undo', 'redo', 'load', 'count', 'borne r', 'least', 'room',
                     'Flip r 1', 'flips r 1', 'flip', 'flip r', 'flip r 1 1', 'flip 1', 'flip r one', 'widen', 'widen 5 5',
                     'widen r', 'hang r s', 'hang r s e f', 'hang', 'take', 'take a b', 'join a b', 'join', 'join a b q q',
                     'part r m', 'part', 'part r m n o', 'put 1 1 1 1 r', 'put ()', 'x', 'keep', 'tried'):
            self.refuse_at(6, *BEGINNING, 'widen 5', line)
            self.refuse_at(6, *BEGINNING, 'widen 5', line, 'widen 6', 'x')

    def test_blanks(self):
        for line in DEEDS:
            near = [' ' + line, line + ' ', line.replace(' ', '  ', 1) if ' ' in line else line + '  ',
                    line.replace(' ', '\t', 1) if ' ' in line else line + '\t']
            for other in near:
                self.refuse_at(6, *BEGINNING, 'widen 4', other)

    def test_a_line_feed_at_the_end(self):
        self.refuse_at(5, *BEGINNING, '')
        self.refuse_at(6, *BEGINNING, 'widen 4', '')
        self.refuse_at(6, *BEGINNING, 'widen 4', '', '')

    def test_numbers_as_python_does_not_write_them(self):
        for number in NO_NUMBERS:
            for line in ('flip r ', 'widen ', 'put 0 0 0 0 ', 'put '):
                self.refuse_at(5, *BEGINNING, line + number)
        self.assertEqual(lines_read(*BEGINNING, 'put 0 0 0 0 0').done, 1)

    def test_refused_deeds(self):
        for line in ('flip a 1', 'flip x 1', 'flip r 3', 'flip r 0', 'flip r -1', 'put', 'put 1', 'put 1 1 1 1 1',
                     'put 0 0 0 0 0 0', 'put -1 1 0 0 0', 'put 11 11 0 0 0', 'widen -1', 'widen 1000000000001', 'switch a',
                     'switch b a', 'switch x', 'switch a a', 'switch a c', 'hang x m n', 'hang r m m', 'hang r a m', 'hang r M n',
                     'take r', 'take x', 'join a a q', 'join a r q', 'join a b c', 'join a b Q', 'part r m n', 'part a m n',
                     'part r m m', 'part x m n', 'hang r abcdefg n', 'take A', 'switch 1 2', 'hang 1 2 3'):
            self.refuse_at(5, *BEGINNING, line)
            self.refuse_at(6, *BEGINNING, 'widen 9', line)
            self.refuse_at(5, *BEGINNING, line, 'widen 9')
        self.refuse_at(6, *BEGINNING, 'put 1 1 1 1 2', 'widen 1')
        self.refuse_at(6, *BEGINNING, 'put 1 1 1 1 2', 'take a')
        self.refuse_at(6, *BEGINNING, 'put 1 1 2 0 2', 'join a c q')
        self.refuse_at(15, 'bench 1', *row_of(12).split('\n'), 'hang ra m n')

    def test_no_word_behind_put_and_switch(self):
        self.assertEqual(lines_read(*BEGINNING, 'switch').done, 1)
        self.refuse_at(5, *BEGINNING, 'put')
        self.refuse_at(6, *BEGINNING, 'switch', 'switch ')

    def test_a_deed_directly_behind_the_first_line(self):
        self.refuse_at(2, 'bench 4', 'put 0', 'web', 'meet a b c')
        self.refuse_at(2, 'bench 4', 'switch')

    def test_one_line_out_twice_exchanged_otherwise(self):
        chance, seen = Random(173), []
        for _ in range(400):
            lines, at = list(WHOLE), chance.randrange(len(WHOLE))
            kind = chance.choice(('out', 'twice', 'exchanged', 'otherwise'))
            if kind == 'out':
                del lines[at]
            elif kind == 'twice':
                lines.insert(at, lines[at])
            elif kind == 'exchanged':
                other = chance.randrange(len(WHOLE))
                lines[at], lines[other] = lines[other], lines[at]
            else:
                lines[at] = chance.choice((lines[at] + ' 1', lines[at][:-1], 'switch', 'put 0 0 0 0 0', 'flip r 1', 'web'))
            told = self.first_wrong(lines)
            if told is None:
                self.assertEqual(journal(lines_read(*lines)).split('\n'), lines)
            else:
                self.refuse_at(told, *lines)
            seen.append(told is None)
        self.assertGreater(min(seen.count(True), seen.count(False)), 25)

    def first_wrong(self, lines):
        """The number of the first wrong line, found by leaving lines out at the end."""
        words = ('flip', 'put', 'widen', 'switch', 'hang', 'take', 'join', 'part')
        if lines[0] != 'bench 4':
            return 1
        at = min([at for at, line in enumerate(lines) if at and line.split(' ')[0] in words], default=len(lines))
        try:
            bench = Bench('\n'.join(lines[1:at]), 4)
        except BadWeb as error:
            return error.value + 1
        for number, line in enumerate(lines[at:], at + 1):
            try:
                self.do_plainly(bench, line)
            except (WebError, TypeError, ValueError, AttributeError):
                return number
        return None

    def do_plainly(self, bench, line):
        word, *given = line.split(' ')
        given = [int(each) if each.isdigit() else each for each in given]
        if word in ('put', 'switch'):
            given = [tuple(given)]
        if word not in ('flip', 'put', 'widen', 'switch', 'hang', 'take', 'join', 'part') or ' '.join(line.split()) != line:
            raise ValueError
        getattr(bench, word)(*given)

    def test_far_numbers(self):
        most = 10 ** 12
        text = '\n'.join([f'bench {most}', *BEGINNING[1:], f'put {most} {most} {most} {most} 0', 'flip r 1',
                          f'widen {most}', 'switch a b c d'])
        bench = read_journal(text)
        self.assertEqual([bench.load, bench.room, journal(bench)], [(0, 0, 0, 0, 0), most, text])


class Values(JournalCase):

    def test_a_journal_is_a_string(self):
        for web in (FOUR, LONE, LONG, CHAIN, PRISM):
            self.assertIs(type(journal(Bench(web.text, 2))), str)
        for value in ANY_VALUES:
            if isinstance(value, str):
                with self.assertRaises(BadJournal) as caught:
                    read_journal(value)
                self.assertEqual(caught.exception.value, 1)

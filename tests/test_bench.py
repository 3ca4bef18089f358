"""Section 15: a bench."""

from random import Random

from tests.case import Case
from tests.plain_bench import PlainBench
from tests.samples import (
    ANY_VALUES, CHAIN, DRUM, FOUR, LONE, LONG, LOOP, NO_ROOMS, NO_STRINGS, PAIR, PRISM, RING, THREE, TREE, WEBS,
    even_lots, fits_plainly, flippable, made_trees, made_webs, nested, row_of,
)
from threeroadcars.bench import Bench
from threeroadcars.counting import count
from threeroadcars.errors import (
    BadEnd, BadLoad, BadName, BadNames, BadRoad, BadRoads, BadRoom, BadWay, BadWeb, Borne, Bridge, Full, Lone, NoInner,
    NoRoad, NothingToRedo, NothingToUndo, NoTrial, Tight, Unequal, WebError,
)
from threeroadcars.flips import flipped
from threeroadcars.journals import journal, read_journal
from threeroadcars.lots import borne, load_with, some_load
from threeroadcars.numbering import load_at
from threeroadcars.webs import Web, bridges

MOST = 10 ** 12
ONES = (1, 1, 1, 1, 2)


def bench_with(web, room, load):
    bench = Bench(web.text, room)
    bench.put(load)
    return bench


def shown(bench):
    return [bench.web, bench.room, bench.load, bench.ends, bench.done, journal(bench)]


class BenchCase(Case):

    def refused(self, bench, error, value, deed, *given):
        """A deed is refused with this value, and changes nothing."""
        ahead = shown(bench)
        with self.subTest(deed, given=given):
            with self.assertRaises(error) as caught:
                getattr(bench, deed)(*given)
            self.assertIs(type(caught.exception), error)
            if isinstance(value, (tuple, int)) and error in (BadNames, Unequal, Tight, Full, Borne):
                self.assertEqual([type(caught.exception.value), caught.exception.value], [type(value), value])
            else:
                self.assertIs(caught.exception.value, value)
            self.assertEqual(shown(bench), ahead)


class Beginning(BenchCase):

    def test_nought_on_all_roads(self):
        for web in WEBS:
            for room in (0, 1, 60, MOST):
                bench = Bench(web.text, room)
                zeros = (0,) * len(web.roads)
                self.assertEqual(shown(bench), [web, room, zeros, (0,) * len(web.ends), 0,
                                                f'bench {room}\n{web.text}'])
                self.assertEqual([type(bench.web), type(bench.load), type(bench.ends)], [Web, tuple, tuple])

    def test_by_names(self):
        self.assertEqual(Bench(room=2, text=FOUR.text), Bench(FOUR.text, 2))
        bench = Bench(FOUR.text, 2)
        self.assertIsNone(bench.put(load=ONES))
        self.assertIsNone(bench.flip(way=1, road='r'))
        self.assertIsNone(bench.hang(end='e', half='s', road='r'))
        self.assertIsNone(bench.take(end='e'))
        self.assertIsNone(bench.switch(roads=('a', 'c')))
        self.assertIsNone(bench.widen(room=9))
        self.assertIsNone(bench.join(road='q', other='b', one='a'))
        self.assertIsNone(bench.part(second='b', first='a', road='q'))
        self.assertEqual(bench.borne(road='r'), (0, 2, 2))
        self.assertEqual(bench.tried(look=lambda held: held.done), 8)
        self.assertEqual([bench.undo(), bench.redo()], [None, None])

    def test_no_web_and_no_room(self):
        for text in (*NO_STRINGS, '', 'web', 'web\nmeet a a a', 'web\nmeet a b c\nmeet d e f', FOUR.text + '\n'):
            for room in (2, -1, None):
                with self.assertRaises(BadWeb) as caught:
                    Bench(text, room)
                with self.assertRaises(BadWeb) as plain:
                    Web(text)
                self.assertEqual(caught.exception.value, plain.exception.value)
        for room in NO_ROOMS:
            self.refuse(BadRoom, room, Bench, FOUR.text, room)


class Deeds(BenchCase):

    def test_flip(self):
        bench = bench_with(FOUR, 9, (4, 3, 6, 3, 5))
        bench.flip('r', 1)
        self.assertEqual([bench.web.text, bench.load], ['web\nmeet a c r\nmeet b d r', (4, 3, 6, 3, 4)])
        bench.flip('r', 1)
        bench.flip('r', 2)
        self.assertEqual([bench.web.text, bench.load], ['web\nmeet a d r\nmeet c b r', (4, 3, 6, 3, 5)])
        for road in (*[value for value in ANY_VALUES if value != 'r'], 'a', 'd', 'x', '', nested(30)):
            for way in (1, 3, None):
                self.refused(bench, BadRoad, road, 'flip', road, way)
        for way in (0, 3, -1, True, False, None, '1', (), (1,), [1], {}, MOST, FOUR, nested(30)):
            self.refused(bench, BadWay, way, 'flip', 'r', way)
        self.refused(Bench(LOOP.text, 2), BadRoad, 'r', 'flip', 'r', 1)

    def test_put(self):
        bench = Bench(FOUR.text, 2)
        bench.put(ONES)
        self.assertEqual([bench.load, bench.ends, bench.done], [ONES, (1, 1, 1, 1), 1])
        bench.put((0, 2, 1, 1, 2))
        self.assertEqual([bench.load, bench.ends, bench.done], [(0, 2, 1, 1, 2), (0, 2, 1, 1), 2])
        for load in (*ANY_VALUES, list(ONES), ONES[:4], ONES + (0,), (1, 1, 1, 1, 1), (2, 2, 2, 2, 4), (1, 1, 1, True, 2),
                     (1, 1, 1, -1, 2), (3, 3, 3, 3, 0), (1, 1, 1, None, 2), (ONES,), nested(30)):
            self.refused(bench, BadLoad, load, 'put', load)

    def test_widen(self):
        bench = bench_with(FOUR, 5, ONES)
        for room in (2, 3, MOST, 2):
            bench.widen(room)
            self.assertEqual([bench.room, bench.load], [room, ONES])
        for room in (0, 1):
            self.refused(bench, Tight, 2, 'widen', room)
        for room in NO_ROOMS:
            self.refused(bench, BadRoom, room, 'widen', room)
        bench = bench_with(FOUR, MOST, (MOST, MOST, MOST, MOST, 0))
        self.refused(bench, Tight, MOST, 'widen', MOST - 1)
        bench.put((0,) * 5)
        bench.widen(0)
        self.assertEqual([bench.room, bench.count()], [0, 1])

    def test_switch(self):
        bench = bench_with(FOUR, 3, ONES)
        bench.switch(('a', 'b'))
        self.assertEqual([bench.load, bench.ends], [(2, 2, 1, 1, 2), (2, 2, 1, 1)])
        bench.switch(('a', 'b'))
        bench.switch(())
        self.assertEqual([bench.load, bench.done], [ONES, 4])
        for roads in (*[value for value in ANY_VALUES if value != ()], ('a',), ('b', 'a'), ('a', 'c'), ('a', 'a'), ['a', 'b'],
                      ('a', 'b', 'r'), 'ab', ('a', 'x'), ('a', None), ('a', ['b']), [], '', nested(30)):
            self.refused(bench, BadRoads, roads, 'switch', roads)
        loop = bench_with(LOOP, 3, (2, 2))
        loop.switch(('r',))
        self.assertEqual(loop.load, (1, 2))

    def test_hang(self):
        bench = bench_with(FOUR, 2, ONES)
        bench.hang('r', 's', 'e')
        self.assertEqual([bench.web.text.split('\n')[1:], bench.web.roads, bench.load],
                         [['meet a b r', 'meet c d s', 'meet r s e'], ('a', 'b', 'c', 'd', 'e', 'r', 's'),
                          (1, 1, 1, 1, 0, 2, 2)])
        bench.hang('a', 'h', 'f')
        self.assertEqual([bench.web.junctions[-1], bench.web.ends, bench.ends],
                         [('a', 'h', 'f'), ('b', 'c', 'd', 'e', 'f', 'h'), (1, 1, 1, 0, 0, 1)])
        for road in ('x', None, '', ('r',), 1):
            self.refused(bench, NoRoad, road, 'hang', road, 'm', 'm')
        for names in (('a', 'm'), ('m', 'a'), ('m', 'm'), ('r', 'm'), ('M', 'n'), (None, 'm'), ('m', 1), ('s', 'e')):
            self.refused(bench, BadNames, names, 'hang', 'r', *names)
        full = Bench(LONG.text, 3)
        self.refused(full, Full, 12, 'hang', 'ra', 'm', 'n')
        self.refused(full, BadNames, ('m', 'm'), 'hang', 'ra', 'm', 'm')
        self.refused(full, NoRoad, 'm', 'hang', 'm', 'm', 'm')

    def test_take(self):
        bench = bench_with(FOUR, 4, (1, 1, 0, 2, 2))
        for end, number in (('a', 1), ('d', 2)):
            self.refused(bench, Borne, number, 'take', end)
        for end in ('r', 'x', None, ('c',), 0, ''):
            self.refused(bench, BadEnd, end, 'take', end)
        bench.take('c')
        self.assertEqual([bench.web.text, bench.load], ['web\nmeet a b d', (1, 1, 2)])
        for end, number in (('a', 1), ('b', 1), ('d', 2)):
            self.refused(bench, Lone, end, 'take', end)
        ring = bench_with(RING, 3, (0, 2, 2, 2))
        ring.take('p')
        self.assertEqual([ring.web.text, ring.load], ['web\nmeet q q s', (2, 2)])
        self.refused(ring, Lone, 's', 'take', 's')
        self.refused(ring, BadEnd, 'q', 'take', 'q')

    def test_join(self):
        bench = bench_with(FOUR, 4, (1, 1, 1, 3, 2))
        self.refused(bench, Unequal, (1, 3), 'join', 'a', 'd', 'q')
        self.refused(bench, Unequal, (3, 1), 'join', 'd', 'a', 'd')
        for one in ('r', 'x', None):
            self.refused(bench, BadEnd, one, 'join', one, None, None)
        for other in ('a', 'r', 'x', None):
            self.refused(bench, BadEnd, other, 'join', 'a', other, None)
        for road in ('b', 'r', '', 'Q', None, 1):
            self.refused(bench, BadName, road, 'join', 'a', 'd', road)
        bench.join('c', 'a', 'q')
        self.assertEqual([bench.web.text, bench.load], ['web\nmeet q b r\nmeet q d r', (1, 3, 1, 2)])
        bench.undo()
        bench.join('a', 'b', 'b')
        self.assertEqual([bench.web.text, bench.web.roads, bench.load],
                         ['web\nmeet b b r\nmeet c d r', ('b', 'c', 'd', 'r'), (1, 1, 3, 2)])

    def test_part(self):
        bench = bench_with(CHAIN, 4, (2, 2, 2, 1, 2, 2, 2))
        for road in ('b', 'c'):
            self.refused(bench, Bridge, road, 'part', road, 'm', 'n')
        for road in ('a', 'x', None, ('d',)):
            self.refused(bench, NoInner, road, 'part', road, 'a', 'a')
        for names in (('d', 'd'), ('a', 'm'), ('m', 'a'), ('m', None), (1, 'm')):
            self.refused(bench, BadNames, names, 'part', 'd', *names)
            self.refused(bench, BadNames, names, 'part', 'b', *names)
        bench.part('d', 'd', 'n')
        self.assertEqual([bench.web.junctions[1], bench.web.ends, bench.ends], [('c', 'd', 'n'), ('a', 'd', 'g', 'n'), (2, 1, 2, 1)])
        bench.part('e', 'm', 'e')
        self.assertEqual(bench.web.junctions[2:], (('b', 'm', 'f'), ('e', 'f', 'g')))
        self.assertEqual([bench.web.rounds, bench.load], [0, (2, 2, 2, 1, 2, 2, 2, 2, 1)])
        for road in bench.web.inner:
            self.refused(bench, Bridge, road, 'part', road, 'x', 'y')

    def test_deeds_that_change_nothing_stand_too(self):
        bench = bench_with(FOUR, 2, ONES)
        bench.put(ONES)
        bench.widen(2)
        bench.switch(())
        self.assertEqual([bench.done, bench.load, bench.room], [4, ONES, 2])
        bench.undo()
        bench.undo()
        self.assertEqual(bench.done, 2)

    def test_what_is_refused_leaves_what_can_be_undone_and_done_again(self):
        bench = bench_with(FOUR, 2, ONES)
        bench.flip('r', 1)
        bench.undo()
        for deed, given in (('flip', ('a', 1)), ('flip', ('r', 3)), ('put', ((1,),)), ('widen', (1,)), ('widen', (-1,)),
                            ('switch', (('a',),)), ('hang', ('x', 'm', 'n')), ('take', ('a',)), ('take', ('r',)),
                            ('join', ('a', 'a', 'a')), ('part', ('r', 'm', 'n')), ('borne', ('x',)), ('keep', ())):
            with self.assertRaises(WebError):
                getattr(bench, deed)(*given)
        bench.redo()
        self.assertEqual([bench.done, bench.web], [2, flipped(FOUR, 'r', 1)])
        bench.undo()
        bench.undo()
        self.assertEqual([bench.done, bench.load], [0, (0,) * 5])
        self.refused(bench, NothingToUndo, None, 'undo')

    def test_count_and_borne(self):
        chance = Random(151)
        for web in (*WEBS, *made_webs(30, 152)):
            room = chance.choice((0, 1, 5, 60))
            bench = Bench(web.text, room)
            many = bench.count()
            self.assertEqual(many, count(web, room, bench.ends))
            ends = tuple(2 * chance.randint(0, room // 2) for _ in web.ends)
            told = some_load(web, room, ends)
            if told[0] == 'load':
                bench.put(told[1])
            self.assertEqual(bench.count(), count(web, room, bench.ends))
            for road in web.roads:
                self.assertEqual(bench.borne(road), borne(web, room, bench.ends, road))
                self.assertEqual(len(bench.borne(road)), 3)
            for road in ('x' * 6 + 'x', None, (), 1, ['a']):
                self.refused(bench, NoRoad, road, 'borne', road)

    def test_what_count_raises(self):
        for web in (RING, THREE, Web(row_of(7))):
            bench = Bench(web.text, 60)
            self.assertGreater(bench.count(), 0)
            for room in (61, MOST):
                bench.widen(room)
                self.refused(bench, BadRoom, room, 'count')
        bench = bench_with(FOUR, MOST, (10 ** 11,) * 4 + (0,))
        self.assertEqual([bench.count(), bench.borne('r')], [10 ** 11 + 1, (0, 2 * 10 ** 11, 2)])


class Guarantees(BenchCase):

    def test_a_flip_leaves_room_ends_rounds_and_the_number_of_loads(self):
        chance = Random(153)
        for web in (*WEBS, *made_webs(30, 154)):
            bench = Bench(web.text, 6)
            ends = tuple(2 * chance.randint(0, 3) for _ in web.ends)
            many = count(web, 6, ends)
            if not many:
                continue
            bench.put(load_at(web, 6, ends, chance.randrange(many)))
            for _ in range(10):
                roads = flippable(bench.web)
                if roads:
                    bench.flip(chance.choice(roads), chance.choice((1, 2)))
                self.assertEqual([bench.room, bench.ends, bench.web.rounds, bench.count()], [6, ends, web.rounds, many])
                self.assertTrue(fits_plainly(bench.web, 6, bench.load))

    def test_the_same_switch_again(self):
        chance = Random(155)
        for web in (*[web for web in WEBS if len(web) < 7], *made_webs(20, 156, most=4)):
            bench = Bench(web.text, 5)
            for _ in range(4):
                roads = chance.choice(even_lots(web))
                ahead = shown(bench)[:4]
                bench.switch(roads)
                self.assertTrue(fits_plainly(web, 5, bench.load))
                bench.switch(roads)
                self.assertEqual(shown(bench)[:4], ahead)
                bench.switch(roads)

    def test_a_road_that_is_parted_is_joined_again(self):
        chance = Random(157)
        for web in (*WEBS, *made_webs(40, 158)):
            for road in web.inner:
                if road not in bridges(web):
                    ends = tuple(2 * chance.randint(0, 3) for _ in web.ends)
                    bench = bench_with(web, 6, load_with(web, 6, ends, road, borne(web, 6, ends, road)[1]))
                    ahead = shown(bench)[:4]
                    bench.part(road, 'zx', 'zy')
                    self.assertEqual(bench.web.rounds, web.rounds - 1)
                    bench.join('zx', 'zy', road)
                    self.assertEqual(shown(bench)[:4], ahead)

    def test_an_end_that_is_hung_on_is_taken_again(self):
        chance = Random(159)
        for web in (*WEBS, *made_webs(40, 160, most=11)):
            if len(web) == 12:
                continue
            for road in web.roads:
                ends = tuple(2 * chance.randint(0, 3) for _ in web.ends)
                if some_load(web, 6, ends)[0] == 'load':
                    bench = bench_with(web, 6, some_load(web, 6, ends)[1])
                    numbers, many = dict(zip(web.roads, bench.load)), bench.count()
                    bench.hang(road, 'zx', 'zy')
                    self.assertEqual(bench.count(), many)
                    bench.take('zy')
                    left = (set(bench.web.roads) - set(web.roads)) or {road}
                    called = {name: road for name in left}
                    self.assertEqual([[called.get(word, word) for word in words] for words in bench.web.junctions],
                                     [list(words) for words in web.junctions])
                    self.assertEqual({called.get(name, name): number for name, number in zip(bench.web.roads, bench.load)},
                                     numbers)


class UndoAndRedo(BenchCase):

    DEEDS = (('put', ONES), ('flip', 'r', 1), ('hang', 'r', 's', 'e'), ('widen', 7), ('switch', ('a', 'c')), ('take', 'e'),
             ('join', 'a', 'c', 'q'), ('part', 'q', 'm', 'n'), ('put', (2, 2, 2, 2, 2)))

    def test_through_rows_of_deeds(self):
        bench, stages = Bench(FOUR.text, 2), []
        for deed, *given in self.DEEDS:
            stages.append(shown(bench))
            getattr(bench, deed)(*given)
        stages.append(shown(bench))
        for _ in range(2):
            for stage in stages[-2::-1]:
                self.assertIsNone(bench.undo())
                self.assertEqual(shown(bench), stage)
            self.refused(bench, NothingToUndo, None, 'undo')
            for stage in stages[1:]:
                self.assertIsNone(bench.redo())
                self.assertEqual(shown(bench), stage)
            self.refused(bench, NothingToRedo, None, 'redo')
        self.assertEqual([stage[4] for stage in stages], list(range(len(self.DEEDS) + 1)))

    def test_redo_is_gone_behind_a_new_deed(self):
        bench = bench_with(FOUR, 2, ONES)
        bench.flip('r', 1)
        bench.flip('r', 2)
        bench.undo()
        bench.undo()
        bench.redo()
        bench.widen(2)
        self.refused(bench, NothingToRedo, None, 'redo')
        bench.undo()
        bench.redo()
        self.refused(bench, NothingToRedo, None, 'redo')
        self.assertEqual(bench.done, 3)

    def test_nothing_to_undo_and_nothing_to_redo(self):
        bench = Bench(FOUR.text, 2)
        self.refused(bench, NothingToUndo, None, 'undo')
        self.refused(bench, NothingToRedo, None, 'redo')
        bench.widen(3)
        self.refused(bench, NothingToRedo, None, 'redo')


class Left(Exception):
    pass


class Trials(BenchCase):

    def test_a_block_leaves_nothing_behind(self):
        bench = bench_with(FOUR, 2, ONES)
        bench.flip('r', 1)
        bench.undo()
        ahead = shown(bench)
        block = bench.trial()
        with block as held:
            self.assertIs(held, bench)
            self.assertEqual(shown(bench), ahead)
            bench.widen(9)
            bench.hang('r', 's', 'e')
            self.assertEqual(bench.done, 3)
        self.assertEqual(shown(bench), ahead)
        bench.redo()
        self.assertEqual([bench.web, bench.done], [flipped(FOUR, 'r', 1), 2])
        bench.undo()
        bench.undo()
        self.refused(bench, NothingToUndo, None, 'undo')

    def test_as_it_was_when_it_was_entered(self):
        bench = bench_with(FOUR, 2, ONES)
        block = bench.trial()
        bench.widen(5)
        self.refused(bench, NoTrial, None, 'keep')
        with block:
            bench.widen(7)
        self.assertEqual([bench.room, bench.done], [5, 2])

    def test_kept(self):
        bench = bench_with(FOUR, 2, ONES)
        with bench.trial():
            bench.widen(9)
            self.assertIsNone(bench.keep())
            bench.flip('r', 1)
        self.assertEqual([bench.room, bench.done, bench.web], [9, 3, flipped(FOUR, 'r', 1)])
        bench.undo()
        bench.undo()
        self.assertEqual(bench.room, 2)
        bench.redo()
        self.assertEqual(bench.room, 9)
        self.refused(bench, NoTrial, None, 'keep')

    def test_left_by_an_error(self):
        for keeps in (True, False):
            bench = bench_with(FOUR, 2, ONES)
            bench.widen(3)
            bench.undo()
            ahead, error = shown(bench), Left('x')
            with self.assertRaises(Left) as caught:
                with bench.trial():
                    bench.widen(9)
                    if keeps:
                        bench.keep()
                    raise error
            self.assertIs(caught.exception, error)
            self.assertEqual(shown(bench), ahead)
            bench.redo()
            self.assertEqual(bench.room, 3)
            with self.assertRaises(Tight):
                with bench.trial():
                    bench.widen(8)
                    bench.widen(1)
            self.assertEqual([bench.room, bench.done], [3, 2])
            self.refused(bench, NoTrial, None, 'keep')

    def test_left_by_a_jump(self):
        bench = Bench(FOUR.text, 2)
        for keeps in (False, True):
            while True:
                with bench.trial():
                    bench.widen(9)
                    if keeps:
                        bench.keep()
                    break
            self.assertEqual(bench.room, 9 if keeps else 2)

    def test_blocks_within_blocks(self):
        for outer in (True, False):
            for inner in (True, False):
                bench = Bench(FOUR.text, 2)
                with bench.trial():
                    bench.widen(3)
                    with bench.trial() as held:
                        self.assertIs(held, bench)
                        bench.widen(4)
                        if inner:
                            bench.keep()
                    self.assertEqual([bench.room, bench.done], [4, 2] if inner else [3, 1])
                    if outer:
                        bench.keep()
                told = ([4, 2] if inner else [3, 1]) if outer else [2, 0]
                self.assertEqual([bench.room, bench.done], told)
                self.refused(bench, NoTrial, None, 'keep')

    def test_kept_outside_of_the_inner_one_alone(self):
        bench = Bench(FOUR.text, 2)
        with bench.trial():
            bench.keep()
            bench.widen(3)
            with bench.trial():
                bench.widen(4)
            self.assertEqual(bench.room, 3)
            with self.assertRaises(Left):
                with bench.trial():
                    bench.widen(5)
                    bench.keep()
                    raise Left
            self.assertEqual(bench.room, 3)
        self.assertEqual([bench.room, bench.done], [3, 1])

    def test_undo_and_redo_of_what_was_done_ahead_of_the_block(self):
        bench = bench_with(FOUR, 2, ONES)
        bench.widen(3)
        bench.widen(4)
        bench.undo()
        with bench.trial():
            bench.redo()
            self.assertEqual(bench.room, 4)
            for _ in range(3):
                bench.undo()
            self.refused(bench, NothingToUndo, None, 'undo')
            bench.widen(5)
            self.refused(bench, NothingToRedo, None, 'redo')
        self.assertEqual([bench.room, bench.done, bench.load], [3, 2, ONES])
        bench.redo()
        self.assertEqual(bench.room, 4)
        with bench.trial():
            bench.undo()
            bench.undo()
            bench.keep()
        self.assertEqual([bench.room, bench.done], [2, 1])
        bench.redo()
        bench.redo()
        self.refused(bench, NothingToRedo, None, 'redo')
        self.assertEqual(bench.room, 4)

    def test_no_trial(self):
        bench = Bench(FOUR.text, 2)
        bench.trial()
        self.refused(bench, NoTrial, None, 'keep')

    def test_tried(self):
        bench = bench_with(FOUR, 2, ONES)

        def look(held):
            self.assertIs(held, bench)
            held.widen(9)
            return held.room, held.done

        for keep in (False, 1, 'yes', None, [True], (True,), 0, FOUR):
            self.assertEqual(bench.tried(look, keep=keep), (9, 2))
            self.assertEqual([bench.room, bench.done], [2, 1])
        self.assertEqual(bench.tried(look), (9, 2))
        self.assertEqual(bench.room, 2)
        self.assertEqual(bench.tried(look, keep=True), (9, 2))
        self.assertEqual([bench.room, bench.done], [9, 2])
        self.refused(bench, NoTrial, None, 'keep')
        with self.assertRaises(TypeError):
            bench.tried(look, True)

    def test_tried_with_a_look_that_keeps(self):
        bench = Bench(FOUR.text, 2)

        def look(held):
            held.widen(9)
            held.keep()
            held.widen(8)

        self.assertIsNone(bench.tried(look))
        self.assertEqual([bench.room, bench.done], [8, 2])
        self.assertIsNone(bench.tried(lambda held: held.tried(look)))
        self.assertEqual([bench.room, bench.done], [8, 2])

    def test_tried_with_a_look_that_raises(self):
        bench = Bench(FOUR.text, 2)

        def look(held):
            held.widen(9)
            held.keep()
            raise Left

        for keep in (True, False):
            with self.assertRaises(Left):
                bench.tried(look, keep=keep)
            self.assertEqual([bench.room, bench.done], [2, 0])
            with self.assertRaises(Borne):
                bench.tried(lambda held: (held.put(ONES), held.take('a')), keep=keep)
            self.assertEqual([bench.room, bench.done], [2, 0])
        self.refused(bench, NoTrial, None, 'keep')


class Copies(BenchCase):

    def test_independent_and_equal(self):
        bench = bench_with(FOUR, 2, ONES)
        bench.flip('r', 1)
        bench.widen(5)
        bench.undo()
        other = bench.copy()
        self.assertIsNot(other, bench)
        self.assertIs(type(other), Bench)
        self.assertEqual(shown(other), shown(bench))
        self.assertTrue(other == bench)
        self.assertFalse(other != bench)
        other.redo()
        self.assertEqual([other.room, bench.room], [5, 2])
        self.assertTrue(other != bench)
        bench.redo()
        self.assertTrue(other == bench)
        for _ in range(3):
            other.undo()
        self.refused(other, NothingToUndo, None, 'undo')
        self.assertEqual([bench.done, bench.load], [3, ONES])

    def test_outside_of_all_blocks(self):
        bench = Bench(FOUR.text, 2)
        with bench.trial():
            bench.widen(3)
            other = bench.copy()
            self.refused(other, NoTrial, None, 'keep')
            other.widen(4)
            bench.keep()
            with other.trial():
                other.widen(7)
        self.assertEqual([bench.room, other.room, other.done], [3, 4, 2])
        with bench.trial():
            other = bench.copy()
            bench.widen(9)
        self.assertEqual([bench.room, other.room], [3, 3])

    def test_equal_if_their_journals_are(self):
        one, other = Bench(FOUR.text, 2), Bench(FOUR.text, 2)
        self.assertTrue(one == other)
        one.put(ONES)
        self.assertTrue(one != other)
        other.put(ONES)
        self.assertTrue(one == other)
        one.widen(2)
        self.assertEqual([one.web, one.room, one.load], [other.web, other.room, other.load])
        self.assertTrue(one != other)
        one.undo()
        self.assertTrue(one == other)
        self.assertFalse(one != other)
        self.assertTrue(Bench(FOUR.text, 2) != Bench(FOUR.text, 3))
        self.assertTrue(Bench(FOUR.text, 2) != Bench(TREE.text, 2))

    def test_nothing_else_is_equal(self):
        bench = Bench(FOUR.text, 2)
        for value in (*ANY_VALUES, FOUR, FOUR.text, journal(bench), 2, None, (bench,), [bench], nested(30)):
            self.assertIs(bench == value, False)
            self.assertIs(value == bench, False)
            self.assertIs(bench != value, True)
            self.assertIs(value != bench, True)
        self.assertEqual((bench, 1), (bench.copy(), 1))

    def test_benches_are_values_of_any_kind(self):
        bench = Bench(FOUR.text, 2)
        self.refused(bench, BadLoad, bench, 'put', bench)
        self.refused(bench, BadRoom, bench, 'widen', bench)
        self.refused(bench, BadRoad, bench, 'flip', bench, bench)
        self.refused(bench, NoRoad, bench, 'hang', bench, bench, bench)


class Hours(Case):
    """Rows of drawn deeds, beside a plain second bench."""

    WRONG = (None, True, -1, 0, 1, 'x', 'zz', '', ('a',), ['a'], (), FOUR, 10 ** 13 - 1)

    def name(self, chance):
        return ''.join(chance.choice('abxyz') for _ in range(chance.randint(1, 3)))

    def drawn(self, plain, chance):
        """A deed and its arguments, right ones more often than not."""
        web, road = plain.web, chance.choice(plain.web.roads)
        word = chance.choice(('flip', 'flip', 'put', 'put', 'widen', 'switch', 'hang', 'hang', 'take', 'join', 'part'))
        end = chance.choice(web.ends or ('x',))
        inner = chance.choice(web.inner or ('x',))
        given = {
            'flip': lambda: (chance.choice(flippable(web) or ('x',)), chance.choice((1, 2))),
            'put': lambda: (self.some_load(plain, chance),),
            'widen': lambda: (chance.randint(0, 9),),
            'switch': lambda: (self.some_roads(web, chance),),
            'hang': lambda: (road, self.name(chance), self.name(chance)),
            'take': lambda: (min(web.ends or ('x',), key=lambda name: (plain.borne.get(name), chance.random())),),
            'join': lambda: (end, chance.choice([name for name in web.ends if name == 'x' or name != end
                                                 and plain.borne[name] == plain.borne[end]] or [end]), self.name(chance)),
            'part': lambda: (inner, self.name(chance), self.name(chance)),
        }[word]()
        if chance.random() < 0.15:
            at = chance.randrange(len(given))
            given = given[:at] + (chance.choice(self.WRONG),) + given[at + 1:]
        return word, given

    def some_load(self, plain, chance):
        ends = tuple(chance.choice((0, 0, 1, 2, 2, plain.room)) for _ in plain.web.ends)
        ends = tuple(min(number, plain.room) for number in ends)
        many = count(plain.web, plain.room, ends)
        return load_at(plain.web, plain.room, ends, chance.randrange(many)) if many else (1,) * len(plain.web.roads)

    def some_roads(self, web, chance):
        if web.rounds == 0:
            return tuple(sorted(self.way(web, *chance.sample(web.ends, 2))))
        return chance.choice(((), tuple(sorted(chance.sample(web.roads, min(2, len(web.roads)))))))

    def way(self, web, one, other):
        ways = [(one,)]
        for way in ways:
            if way[-1] == other:
                return way
            for words in web.junctions:
                if way[-1] in words:
                    ways += [way + (word,) for word in words if word not in way and not set(words) & set(way[:-1])]
        return ()

    def check_alike(self, bench, plain):
        self.assertEqual([bench.web, bench.room, bench.load, bench.ends, bench.done],
                         [plain.web, plain.room, plain.load(), plain.ends(), len(plain.done)])
        self.assertTrue(fits_plainly(bench.web, bench.room, bench.load))

    def both(self, bench, plain, chance):
        word = chance.choice(('undo', 'redo', *['deed'] * 6))
        if word == 'deed':
            word, given = self.drawn(plain, chance)
            refused = plain.do(word, *given)
        else:
            given, refused = (), getattr(plain, word)()
        with self.subTest(web=bench.web.text, load=bench.load, room=bench.room, deed=word, given=given):
            if refused is None:
                self.assertIsNone(getattr(bench, word)(*given))
            else:
                with self.assertRaises(refused[0]) as caught:
                    getattr(bench, word)(*given)
                self.assertIs(type(caught.exception), refused[0])
                self.assertEqual([caught.exception.value, type(caught.exception.value)], [refused[1], type(refused[1])])
            self.check_alike(bench, plain)
        return word, refused

    def hour(self, bench, plain, chance, depth, seen):
        for _ in range(chance.randint(1, 12)):
            seen.append(self.both(bench, plain, chance))
            if depth < 3 and chance.random() < 0.15:
                self.block(bench, plain, chance, depth + 1, seen)
            if chance.random() < 0.05:
                other = bench.copy()
                self.assertEqual(other, bench)
                self.check_alike(other, plain)
                other.widen(9 + other.room)
                self.assertNotEqual(other, bench)
                self.check_alike(bench, plain)
        text = journal(bench)
        self.assertEqual(text, plain.journal())
        again = read_journal(text)
        self.assertEqual(again, bench)
        self.check_alike(again, plain)

    def block(self, bench, plain, chance, depth, seen):
        before, keeps, leaves = plain.all_of_it(), chance.random() < 0.5, chance.random() < 0.3
        try:
            with bench.trial() as held:
                self.assertIs(held, bench)
                self.hour(bench, plain, chance, depth, seen)
                if keeps:
                    bench.keep()
                if leaves:
                    raise Left
        except Left:
            pass
        if leaves or not keeps:
            plain.be(before)
        self.check_alike(bench, plain)
        self.assertEqual(journal(bench), plain.journal())

    def test_hours_at_a_bench(self):
        chance, seen = Random(161), []
        for web in (FOUR, TREE, LONE, LOOP, DRUM, RING, THREE, PAIR, CHAIN, PRISM, LONG, *made_webs(40, 162),
                    *made_trees(15, 163)):
            room = chance.choice((0, 1, 2, 3, 5, 8))
            bench, plain = Bench(web.text, room), PlainBench(web.text, room)
            for _ in range(5):
                self.hour(bench, plain, chance, 0, seen)
        words = {(word, None if refused is None else refused[0].__name__) for word, refused in seen}
        for word in ('flip', 'put', 'widen', 'switch', 'hang', 'take', 'join', 'part', 'undo', 'redo'):
            self.assertIn((word, None), words)
        for told in (('flip', 'BadRoad'), ('flip', 'BadWay'), ('put', 'BadLoad'), ('widen', 'BadRoom'), ('widen', 'Tight'),
                     ('switch', 'BadRoads'), ('hang', 'NoRoad'), ('hang', 'BadNames'), ('hang', 'Full'),
                     ('take', 'BadEnd'), ('take', 'Lone'), ('take', 'Borne'), ('join', 'BadEnd'), ('join', 'BadName'),
                     ('part', 'NoInner'), ('part', 'BadNames'), ('part', 'Bridge'), ('undo', 'NothingToUndo'),
                     ('redo', 'NothingToRedo')):
            self.assertIn(told, words)

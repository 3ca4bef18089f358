"""The examples of the document, as they stand, and those of README.md."""

import doctest
import unittest
from pathlib import Path

README = Path(__file__).resolve().parent.parent / 'README.md'

WEBS = r'''
>>> from threeroadcars.webs import bridges, renamed, same_meets, Web
>>> tree = Web('web\nmeet a b r\nmeet r c d')
>>> [tree.roads, tree.inner, tree.ends, tree.junctions, tree.rounds, len(tree)]
[('a', 'b', 'c', 'd', 'r'), ('r',), ('a', 'b', 'c', 'd'), (('a', 'b', 'r'), ('r', 'c', 'd')), 0, 2]
>>> ring, drum, pair = Web('web\nmeet p q r\nmeet r q s'), Web('web\nmeet x o o'), Web('web\nmeet a a b\nmeet b c c')
>>> [(web.ends, web.rounds, bridges(web)) for web in (tree, ring, drum, pair)]
[(('a', 'b', 'c', 'd'), 0, ('r',)), (('p', 's'), 1, ()), (('x',), 1, ()), ((), 2, ('b',))]
>>> renamed(tree, ('b', 'a', 'w', 'd', 'c')).text.split('\n')
['web', 'meet b a c', 'meet c w d']
>>> [same_meets(tree, Web('web\nmeet d r c\nmeet b a r')), same_meets(tree, Web('web\nmeet a c r\nmeet r b d'))]
[True, False]
'''

LOADS = r'''
>>> from threeroadcars.loads import does_fit, is_inner, needed_room, passing, rim, switched
>>> from threeroadcars.webs import Web
>>> four = Web('web\nmeet a b r\nmeet c d r')
>>> [does_fit(four, 2, load) for load in ((1, 1, 1, 1, 0), (1, 1, 1, 1, 1), (1, 1, 1, 1, 2), [1, 1, 1, 1, 2])]
[True, False, True, False]
>>> [does_fit(four, 1, (1, 1, 1, 1, 2)), needed_room(four, (1, 1, 1, 1, 2)), rim(four, 2, (1, 1, 1, 1, 2))]
[False, 2, (1, 1, 1, 1)]
>>> [passing(four, 2, (1, 1, 1, 1, 0)), passing(four, 2, (1, 1, 1, 1, 2))]
[((1, 0, 0), (1, 0, 0)), ((0, 1, 1), (0, 1, 1))]
>>> [is_inner(four, 4, (2, 2, 2, 2, 2)), is_inner(four, 3, (2, 2, 2, 2, 2))]
[True, False]
>>> [switched(four, 3, (1, 1, 1, 1, 2), ('a', 'b')), switched(four, 2, (1, 1, 1, 1, 2), ('a', 'c', 'r'))]
[(2, 2, 1, 1, 2), (1, 1, 1, 1, 0)]
>>> loop = Web('web\nmeet r r s')
>>> [passing(loop, 3, (2, 2)), switched(loop, 3, (2, 2), ('r',)), needed_room(loop, (2, 2))]
[((1, 1, 1),), (1, 2), 3]
'''

FLIPS = r'''
>>> from threeroadcars.flips import beside, carried, flipped, led, led_load
>>> from threeroadcars.webs import Web
>>> four = Web('web\nmeet a b r\nmeet c d r')
>>> [flipped(four, 'r', 1).text, flipped(four, 'r', 2).text, flipped(flipped(four, 'r', 2), 'r', 2).text]
['web\nmeet a c r\nmeet b d r', 'web\nmeet a d r\nmeet c b r', 'web\nmeet a b r\nmeet c d r']
>>> [four.roads, beside(four, 2, (1, 1, 1, 1, 0), 'r'), beside(four, 1, (1, 1, 1, 1, 0), 'r'), beside(four, 9, (4, 3, 6, 3, 5), 'r')]
[('a', 'b', 'c', 'd', 'r'), (0, 2), (0, 0), (3, 7)]
>>> [carried(four, 9, (4, 3, 6, 3, 5), 'r', 1), carried(four, 9, (4, 3, 6, 3, 5), 'r', 2), carried(four, 2, (2, 1, 1, 0, 1), 'r', 2)]
[(4, 3, 6, 3, 4), (4, 3, 6, 3, 5), (2, 1, 1, 0, 2)]
>>> ring = Web('web\nmeet a p q\nmeet b p q')
>>> [flipped(ring, 'p', 1).text, led(ring, (('p', 1), ('p', 1))).text]
['web\nmeet a b p\nmeet q q p', 'web\nmeet a q p\nmeet b q p']
>>> [beside(ring, 3, (1, 1, 2, 1), 'p'), carried(ring, 3, (1, 1, 2, 1), 'p', 1), led_load(ring, 3, (1, 1, 2, 1), (('p', 1), ('p', 2)))]
[(0, 2), (1, 1, 2, 1), (1, 1, 2, 1)]
'''

LEADING = r'''
>>> from threeroadcars.leading import led_over, same_kind, shows_same_kind
>>> from threeroadcars.loads import does_fit
>>> from threeroadcars.webs import Web
>>> three = Web('web\nmeet a b c\nmeet a b c')
>>> apart = Web('web\nmeet p p q\nmeet q r r')
>>> [three.ends, three.rounds, apart.rounds, same_kind(three, apart)[0]]
[(), 2, 2, 'led']
>>> script = (('a', 1),)
>>> [shows_same_kind(three, apart, ('led', script, (('a', 'q'), ('b', to), ('c', fro)))) for to, fro in (('p', 'r'), ('r', 'p'), ('p', 'p'))]
[True, True, False]
>>> there = [led_over(three, apart, 2, load) for load in ((0, 0, 0), (1, 1, 0), (1, 1, 2), (0, 2, 2))]
>>> [[does_fit(apart, 2, load) for load in there], len(set(there))]
[[True, True, True, True], 4]
>>> cross, along = Web('web\nmeet a b r\nmeet r c d'), Web('web\nmeet s c a\nmeet b d s')
>>> [shows_same_kind(cross, along, ('led', (('r', way),), (('r', 's'),))) for way in (1, 2)]
[True, False]
>>> [led_over(cross, along, 2, load) for load in ((1, 1, 1, 1, 0), (1, 1, 1, 1, 2), (2, 1, 1, 2, 1))]
[(1, 1, 1, 1, 0), (1, 1, 1, 1, 2), (2, 1, 1, 2, 1)]
>>> [same_kind(cross, Web('web\nmeet a b c')), same_kind(Web('web\nmeet a r r'), Web('web\nmeet a s t\nmeet s t u\nmeet u v v'))]
[('ends',), ('rounds',)]
'''

LOTS = r'''
>>> from threeroadcars.lots import borne, least_room, load_with, shows_some_load, some_load
>>> from threeroadcars.webs import Web
>>> fork, ring = Web('web\nmeet a b r\nmeet c d r'), Web('web\nmeet a r s\nmeet b r s')
>>> [borne(fork, 2, (1, 1, 1, 1), 'r'), borne(fork, 1, (1, 1, 1, 1), 'r'), borne(ring, 1, (1, 1), 'r'), borne(ring, 3, (2, 2), 'a')]
[(0, 2, 2), (0, 0, 2), (0, 1, 1), (2, 2, 2)]
>>> [load_with(fork, 2, (1, 1, 1, 1), 'r', number) for number in (0, 1, 2)]
[(1, 1, 1, 1, 0), None, (1, 1, 1, 1, 2)]
>>> [some_load(ring, 2, (2, 0)), some_load(ring, 3, (1, 2)), some_load(fork, 3, (3, 1, 0, 0)), some_load(fork, 2, (2, 2, 2, 0))]
[('load', (2, 0, 1, 1)), ('odd',), ('lot', ('a',)), ('lot', ('a', 'b', 'c'))]
>>> [shows_some_load(fork, 2, (1, 1, 1, 1), ('load', (1, 1, 1, 1, number))) for number in (0, 1, 2)]
[True, False, True]
>>> [least_room(fork, ends) for ends in ((2, 2, 2, 0), (3, 1, 0, 0), (1, 1, 1, 0))]
[('room', 3), ('never', 'a'), ('odd',)]
>>> [least_room(ring, (2, 0)), least_room(ring, (5, 5))]
[('room', 2), ('room', 5)]
'''

COUNTING = r'''
>>> from threeroadcars.counting import count, far_count, table
>>> from threeroadcars.webs import Web
>>> three, four = Web('web\nmeet a b c'), Web('web\nmeet a b r\nmeet c d r')
>>> [count(three, 2, (1, 1, 2)), count(three, 2, (1, 1, 1)), count(three, 1, (1, 1, 0)), count(three, 2, (2, 2, 2))]
[1, 0, 1, 0]
>>> [count(four, room, (1, 1, 1, 1)) for room in (1, 2, 10 ** 12)]
[1, 2, 2]
>>> count(four, 10 ** 12, (10 ** 11, 10 ** 11, 10 ** 11, 10 ** 11))
100000000001
>>> lone, twice = Web('web\nmeet r r e'), Web('web\nmeet a b c\nmeet a b c')
>>> [count(lone, 4, (2,)), count(lone, 4, (3,)), [count(twice, room, ()) for room in (0, 1, 2, 3)]]
[3, 0, [1, 4, 10, 20]]
>>> table(2, 1)
((0, 1, 0), (1, 0, 1), (0, 1, 0))
>>> [far_count((2,), 1, 4, 97), far_count((), 2, 2, 7), far_count((), 10 ** 18, 1, 7), far_count((1, 1, 1, 1), 0, 1, 5)]
[3, 3, 2, 1]
'''

NUMBERING = r'''
>>> from threeroadcars.numbering import load_at, next_load, place_of
>>> from threeroadcars.webs import Web
>>> four = Web('web\nmeet a b r\nmeet r c d')
>>> [load_at(four, 2, (1, 1, 1, 1), number) for number in (0, 1)]
[(1, 1, 1, 1, 0), (1, 1, 1, 1, 2)]
>>> [place_of(four, 2, (1, 1, 1, 1, 2)), next_load(four, 2, (1, 1, 1, 1, 0)), next_load(four, 1, (1, 1, 1, 1, 0))]
[1, (1, 1, 1, 1, 2), None]
>>> two = Web('web\nmeet p q s\nmeet q p s')
>>> [load_at(two, 1, (), number) for number in range(4)]
[(0, 0, 0), (0, 1, 1), (1, 0, 1), (1, 1, 0)]
>>> [place_of(two, 50, (50, 0, 50)), next_load(two, 50, (0, 50, 50)), load_at(two, 60, (), 20)]
[23375, (1, 0, 1), (0, 20, 20)]
'''

GROWING = r'''
>>> from threeroadcars.growing import ever_inner, grown, growth, inner_count, shows_ever_inner
>>> from threeroadcars.webs import Web
>>> four = Web('web\nmeet a b r\nmeet c d r')
>>> [growth(four, 2, (1, 1, 1, 1)), growth(four, 4, (1, 1, 1, 3)), growth(four, 2, (2, 0, 0, 0))]
[((1, 1), (1, 1)), ((1, 1),), ()]
>>> [grown(four, 2, (1, 1, 1, 1), n) for n in (1, 10 ** 9, 0, -1, -3)]
[2, 1000000001, 1, 0, -2]
>>> [inner_count(four, 2, (1, 1, 1, 1)), inner_count(four, 6, (3, 3, 3, 3))]
[0, 2]
>>> pair = Web('web\nmeet x y z\nmeet x y z')
>>> [growth(pair, 1, ()), grown(pair, 2, (), 5), grown(pair, 1, (), -4), inner_count(pair, 4, ())]
[((1, 1), (11, 6), (1, 1), (1, 6)), 286, -1, 1]
>>> [shows_ever_inner(four, 2, (1, 1, 1, 1), ('inner', 2, load)) for load in ((2, 2, 2, 2, 2), (2, 2, 2, 2, 0))]
[True, False]
>>> [ever_inner(four, 4, (1, 1, 1, 3)), ever_inner(four, 4, (2, 0, 2, 2)), ever_inner(pair, 0, ())]
[('lot', ('d',)), ('end', 'b'), ('room',)]
'''

LAYERS = r'''
>>> from threeroadcars.layers import layers, shows_layers, tracks
>>> from threeroadcars.webs import Web
>>> tree = Web('web\nmeet a b r\nmeet r c d')
>>> sorted(layers(tree, 2, (2, 0, 1, 1, 2)))
[('a', 'c', 'r'), ('a', 'd', 'r')]
>>> [shows_layers(tree, 2, (1, 1, 1, 1, 2), value) for value in ((('a', 'c', 'r'), ('b', 'd', 'r')), (('a', 'd', 'r'), ('b', 'c', 'r')), (('a', 'c', 'r'),))]
[True, True, False]
>>> [shows_layers(tree, 2, (1, 1, 1, 1, 0), value) for value in ((('a', 'b', 'c', 'd'), ()), (('a', 'b'), ('c', 'd')), (('a', 'c'), ('b', 'd')))]
[True, True, False]
>>> [tracks(tree, ('a', 'b', 'c', 'd')), tracks(tree, ('b', 'c', 'r')), tracks(tree, ())]
[(('a', 'b'), ('c', 'd')), (('b', 'r', 'c'),), ()]
'''

FLAT = r'''
>>> from threeroadcars.flat import flat_carried, flat_flipped, load_of, rim_walk, trips
>>> from threeroadcars.webs import Web
>>> four = Web('web\nmeet a b r\nmeet c d r')
>>> [rim_walk(four), rim_walk(Web('web\nmeet d s a\nmeet b s c'))]
[('a', 'b', 'c', 'd'), ('a', 'd', 'c', 'b')]
>>> trips(four, (2, 1, 2, 1, 1))
((('a', 'b'), 1), (('a', 'c'), 1), (('c', 'd'), 1))
>>> load_of(four, ((('a', 'd'), 2), (('b', 'c'), 10 ** 12)))
(2, 1000000000000, 1000000000000, 2, 1000000000002)
>>> other = flat_flipped(four, 'r')
>>> [other.text, flat_carried(four, (2, 1, 2, 1, 1), 'r')]
['web\nmeet d a r\nmeet b c r', (2, 1, 2, 1, 3)]
>>> [trips(other, (2, 1, 2, 1, 3)) == trips(four, (2, 1, 2, 1, 1)), rim_walk(other)]
[True, ('a', 'b', 'c', 'd')]
'''

CUTTING = r'''
>>> from threeroadcars.counting import count
>>> from threeroadcars.cutting import cut, hung, joined, taken
>>> from threeroadcars.webs import Web
>>> four = Web('web\nmeet a b r\nmeet c d r')
>>> [web.text for web in cut(four, 'r', 's', 'r')]
['web\nmeet a b s', 'web\nmeet c d r']
>>> ring = Web('web\nmeet a p q\nmeet b p q')
>>> [web.text for web in cut(ring, 'p', 'm', 'n')]
['web\nmeet a m q\nmeet b n q']
>>> [joined(four, 'a', 'b', 'a').text, joined(ring, 'b', 'a', 'c').text]
['web\nmeet a a r\nmeet c d r', 'web\nmeet c p q\nmeet c p q']
>>> [hung(four, 'r', 'h', 'e').text, hung(four, 'a', 'h', 'e').text]
['web\nmeet a b r\nmeet c d h\nmeet r h e', 'web\nmeet a b r\nmeet c d r\nmeet a h e']
>>> [taken(four, 'd').text, taken(ring, 'a').text, taken(hung(four, 'r', 'h', 'e'), 'e').text]
['web\nmeet a b c', 'web\nmeet b p p', 'web\nmeet a b h\nmeet c d h']
>>> [count(four, 2, (1, 1, 1, 1)), [count(web, 2, (1, 1, 0)) * count(cut(four, 'r', 'r', 's')[1], 2, (1, 1, 0)) for web in cut(four, 'r', 'r', 's')[:1]]]
[2, [1]]
>>> [count(joined(four, 'c', 'd', 'c'), 2, (1, 1)), [count(four, 2, (1, 1, both, both)) for both in (0, 1, 2)]]
[4, [1, 2, 1]]
>>> [count(hung(ring, 'q', 'h', 'e'), 3, (1, 1, 0)), count(ring, 3, (1, 1))]
[6, 6]
'''

BENCH = r'''
>>> from threeroadcars.bench import Bench
>>> bench = Bench('web\nmeet a b r\nmeet c d r', 2)
>>> [bench.load, bench.ends, bench.count()]
[(0, 0, 0, 0, 0), (0, 0, 0, 0), 1]
>>> bench.put((1, 1, 1, 1, 2))
>>> bench.flip('r', 1)
>>> [bench.web.text.split('\n'), bench.load, bench.count(), bench.borne('r')]
[['web', 'meet a c r', 'meet b d r'], (1, 1, 1, 1, 2), 2, (0, 2, 2)]
>>> bench.hang('r', 's', 'e')
>>> [bench.web.text.split('\n'), bench.web.roads, bench.load]
[['web', 'meet a c r', 'meet b d s', 'meet r s e'], ('a', 'b', 'c', 'd', 'e', 'r', 's'), (1, 1, 1, 1, 0, 2, 2)]
>>> bench.take('e')
>>> bench.switch(('a', 'c'))
>>> [bench.web.junctions, bench.load, bench.ends, bench.done]
[(('a', 'c', 'r'), ('b', 'd', 'r')), (1, 1, 1, 1, 2), (1, 1, 1, 1), 5]
>>> bench.join('a', 'b', 'q')
>>> [bench.web.text.split('\n'), bench.load, bench.web.rounds]
[['web', 'meet q c r', 'meet q d r'], (1, 1, 1, 2), 1]
'''

DESK = r'''
>>> from threeroadcars.desk import Desk
>>> from threeroadcars.journals import journal, read_journal
>>> desk = Desk('bench 2\nweb\nmeet a b r\nmeet c d r')
>>> [desk.say(line) for line in ('put 1 1 1 1 2', 'load', 'count', 'borne r', 'least', 'flip r 1', 'web')]
['ok', 'a=1 b=1 c=1 d=1 r=2', '2', '0 2 2', 'room 1', 'ok', 'meet a c r; meet b d r']
>>> [desk.say(line) for line in ('switch a c', 'join a b q', 'web', 'load', 'undo', 'room')]
['ok', 'ok', 'meet q c r; meet q d r', 'c=1 d=1 q=1 r=2', 'ok', '2']
>>> journal(desk.bench).split('\n')
['bench 2', 'web', 'meet a b r', 'meet c d r', 'put 1 1 1 1 2', 'flip r 1', 'switch a c']
>>> read_journal(journal(desk.bench)) == desk.bench
True
'''

ERRORS = r'''
>>> from threeroadcars.errors import BadRoom, WebError
>>> isinstance(BadRoom(-1), WebError), BadRoom(('a', 1)).value
(True, ('a', 1))
'''


class Examples(unittest.TestCase):

    def check(self, text, count):
        test = doctest.DocTestParser().get_doctest(text, {}, 'example', None, 0)
        told = []
        ran = doctest.DocTestRunner().run(test, out=told.append)
        self.assertEqual((ran.failed, ran.attempted), (0, count), ''.join(told))

    def test_readme(self):
        text = README.read_text('ascii').replace('```', '')
        self.check(text, text.count('>>> '))

    def test_section_4(self):
        self.check(WEBS, 7)

    def test_section_5(self):
        self.check(LOADS, 10)

    def test_section_6(self):
        self.check(FLIPS, 9)

    def test_section_7(self):
        self.check(LEADING, 14)

    def test_section_8(self):
        self.check(LOTS, 9)

    def test_section_9(self):
        self.check(COUNTING, 10)

    def test_section_10(self):
        self.check(NUMBERING, 8)

    def test_section_11(self):
        self.check(GROWING, 10)

    def test_section_12(self):
        self.check(LAYERS, 7)

    def test_section_13(self):
        self.check(FLAT, 9)

    def test_section_14(self):
        self.check(CUTTING, 13)

    def test_section_15(self):
        self.check(BENCH, 13)

    def test_section_16(self):
        self.check(DESK, 7)

    def test_section_17(self):
        self.check(ERRORS, 2)

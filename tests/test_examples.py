"""The examples of the document, as they stand."""

import doctest
import unittest

WEBS = r'''
>>> from threeroadcars.webs import bridges, renamed, same_meets, Web
>>> tree = Web('web\nmeet a b r\nmeet r c d')
>>> [tree.roads, tree.inner, tree.ends, tree.junctions, tree.rounds, len(tree)]
[('a', 'b', 'c', 'd', 'r'), ('r',), ('a', 'b', 'c', 'd'), (('a', 'b', 'r'), ('r', 'c', 'd')), 0, 2]
>>> ring, drum, pair = Web('web\nmeet p q r\nmeet r q s'), Web('web\nmeet x o o'), Web('web\nmeet a a b\nmeet b c c')
>>> [(web.ends, web.rounds, bridges(web)) for web in (tree, ring, drum, pair)]
[(('a', 'b', 'c', 'd'), 0, ('r',)), (('p', 's'), 1, ()), (('x',), 1, ()), ((), 2, ('b',))]
>>> renamed(tree, ('b', 'a', 'w', 'd', 'c')).text.split('\n')
['web', 'meet b a c', 'meet c w d']
>>> [same_meets(tree, Web('web\nmeet d r c\nmeet b a r')), same_meets(tree, Web('web\nmeet a c r\nmeet r b d'))]
[True, False]
'''

LOADS = r'''
>>> from threeroadcars.loads import does_fit, is_inner, needed_room, passing, rim, switched
>>> from threeroadcars.webs import Web
>>> four = Web('web\nmeet a b r\nmeet c d r')
>>> [does_fit(four, 2, load) for load in ((1, 1, 1, 1, 0), (1, 1, 1, 1, 1), (1, 1, 1, 1, 2), [1, 1, 1, 1, 2])]
[True, False, True, False]
>>> [does_fit(four, 1, (1, 1, 1, 1, 2)), needed_room(four, (1, 1, 1, 1, 2)), rim(four, 2, (1, 1, 1, 1, 2))]
[False, 2, (1, 1, 1, 1)]
>>> [passing(four, 2, (1, 1, 1, 1, 0)), passing(four, 2, (1, 1, 1, 1, 2))]
[((1, 0, 0), (1, 0, 0)), ((0, 1, 1), (0, 1, 1))]
>>> [is_inner(four, 4, (2, 2, 2, 2, 2)), is_inner(four, 3, (2, 2, 2, 2, 2))]
[True, False]
>>> [switched(four, 3, (1, 1, 1, 1, 2), ('a', 'b')), switched(four, 2, (1, 1, 1, 1, 2), ('a', 'c', 'r'))]
[(2, 2, 1, 1, 2), (1, 1, 1, 1, 0)]
>>> loop = Web('web\nmeet r r s')
>>> [passing(loop, 3, (2, 2)), switched(loop, 3, (2, 2), ('r',)), needed_room(loop, (2, 2))]
[((1, 1, 1),), (1, 2), 3]
'''

ERRORS = r'''
>>> from threeroadcars.errors import BadRoom, WebError
>>> isinstance(BadRoom(-1), WebError), BadRoom(('a', 1)).value
(True, ('a', 1))
'''


class Examples(unittest.TestCase):

    def check(self, text, count):
        test = doctest.DocTestParser().get_doctest(text, {}, 'example', None, 0)
        told = []
        ran = doctest.DocTestRunner().run(test, out=told.append)
        self.assertEqual((ran.failed, ran.attempted), (0, count), ''.join(told))

    def test_section_4(self):
        self.check(WEBS, 7)

    def test_section_5(self):
        self.check(LOADS, 10)

    def test_section_17(self):
        self.check(ERRORS, 2)

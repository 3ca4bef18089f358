"""The interface: names, the files that define them, parameters, attributes."""

import inspect
import unittest

from tests.samples import FOUR, LONE, LOOP, TREE, WEBS, web_of
from threeroadcars import (
    bench, counting, cutting, desk, flat, flips, growing, journals, layers, leading, loads, lots, numbering, webs,
)

PARAMETERS = {
    webs: {
        'bridges': ['web'],
        'renamed': ['web', 'names'],
        'same_meets': ['one', 'other'],
    },
    loads: {
        'does_fit': ['web', 'room', 'load'],
        'rim': ['web', 'room', 'load'],
        'passing': ['web', 'room', 'load'],
        'needed_room': ['web', 'load'],
        'is_inner': ['web', 'room', 'load'],
        'switched': ['web', 'room', 'load', 'roads'],
    },
    flips: {
        'flipped': ['web', 'road', 'way'],
        'beside': ['web', 'room', 'load', 'road'],
        'carried': ['web', 'room', 'load', 'road', 'way'],
        'led': ['web', 'script'],
        'led_load': ['web', 'room', 'load', 'script'],
    },
    leading: {
        'same_kind': ['one', 'other'],
        'shows_same_kind': ['one', 'other', 'value'],
        'led_over': ['one', 'other', 'room', 'load'],
    },
    lots: {
        'some_load': ['web', 'room', 'ends'],
        'shows_some_load': ['web', 'room', 'ends', 'value'],
        'borne': ['web', 'room', 'ends', 'road'],
        'load_with': ['web', 'room', 'ends', 'road', 'number'],
        'least_room': ['web', 'ends'],
    },
    counting: {
        'count': ['web', 'room', 'ends'],
        'table': ['room', 'number'],
        'far_count': ['ends', 'rounds', 'room', 'modulus'],
    },
    numbering: {
        'load_at': ['web', 'room', 'ends', 'number'],
        'place_of': ['web', 'room', 'load'],
        'next_load': ['web', 'room', 'load'],
    },
    growing: {
        'growth': ['web', 'room', 'ends'],
        'grown': ['web', 'room', 'ends', 'n'],
        'inner_count': ['web', 'room', 'ends'],
        'ever_inner': ['web', 'room', 'ends'],
        'shows_ever_inner': ['web', 'room', 'ends', 'value'],
    },
    layers: {
        'layers': ['web', 'room', 'load'],
        'shows_layers': ['web', 'room', 'load', 'value'],
        'tracks': ['web', 'layer'],
    },
    flat: {
        'rim_walk': ['web'],
        'trips': ['web', 'load'],
        'load_of': ['web', 'rows'],
        'flat_flipped': ['web', 'road'],
        'flat_carried': ['web', 'load', 'road'],
    },
    cutting: {
        'cut': ['web', 'road', 'first', 'second'],
        'joined': ['web', 'one', 'other', 'road'],
        'hung': ['web', 'road', 'half', 'end'],
        'taken': ['web', 'end'],
    },
    journals: {
        'journal': ['bench'],
        'read_journal': ['text'],
    },
}
METHODS = {
    bench.Bench: {
        '__init__': ['text', 'room'],
        'flip': ['road', 'way'],
        'put': ['load'],
        'widen': ['room'],
        'switch': ['roads'],
        'hang': ['road', 'half', 'end'],
        'take': ['end'],
        'join': ['one', 'other', 'road'],
        'part': ['road', 'first', 'second'],
        'count': [],
        'borne': ['road'],
        'undo': [],
        'redo': [],
        'trial': [],
        'keep': [],
        'tried': ['look', 'keep'],
        'copy': [],
    },
    desk.Desk: {
        '__init__': ['text'],
        'say': ['line'],
    },
}


class Interface(unittest.TestCase):

    def test_functions_are_defined_in_their_files_with_their_parameters(self):
        for module, functions in PARAMETERS.items():
            for name, names in functions.items():
                with self.subTest(name):
                    function = getattr(module, name)
                    self.assertEqual(function.__module__, module.__name__)
                    told = inspect.signature(function).parameters
                    self.assertEqual(list(told), names)
                    self.assertEqual({each.kind.name for each in told.values()}, {'POSITIONAL_OR_KEYWORD'})

    def test_web_is_defined_in_its_file_with_its_parameter(self):
        self.assertEqual(webs.Web.__module__, 'threeroadcars.webs')
        self.assertEqual(list(inspect.signature(webs.Web).parameters), ['text'])
        self.assertIn('__len__', vars(webs.Web))
        self.assertIn('__eq__', vars(webs.Web))

    def test_methods_are_defined_in_the_body_of_their_class_with_their_parameters(self):
        for kind, methods in METHODS.items():
            self.assertEqual(kind.__module__, {'Bench': 'threeroadcars.bench', 'Desk': 'threeroadcars.desk'}[kind.__name__])
            for name, names in methods.items():
                with self.subTest(name):
                    self.assertIn(name, vars(kind))
                    told = inspect.signature(vars(kind)[name]).parameters
                    self.assertEqual(list(told), ['self', *names])
                    for each in told.values():
                        self.assertEqual(each.kind.name, 'KEYWORD_ONLY' if each.name == 'keep' else 'POSITIONAL_OR_KEYWORD')
        self.assertIs(inspect.signature(bench.Bench.tried).parameters['keep'].default, False)

    def test_attributes_are_set_when_a_bench_or_a_desk_is_created(self):
        for web in WEBS:
            made = bench.Bench(web.text, 2)
            for name in ('web', 'room', 'load', 'ends', 'done'):
                self.assertTrue(hasattr(made, name), name)
            self.assertIsInstance(desk.Desk(f'bench 2\n{web.text}').bench, bench.Bench)

    def test_attributes_are_set_when_a_web_is_created(self):
        for web in WEBS:
            for name in ('text', 'roads', 'inner', 'ends', 'junctions', 'rounds'):
                self.assertTrue(hasattr(web, name), name)

    def test_arguments_by_name(self):
        self.assertEqual(webs.Web(text=FOUR.text), FOUR)
        self.assertEqual(webs.bridges(web=FOUR), ('r',))
        self.assertEqual(webs.renamed(names=('s', 't'), web=LOOP), web_of('s s t'))
        self.assertIs(webs.same_meets(other=FOUR, one=FOUR), True)
        told = {'load': (1, 1, 1, 1, 2), 'room': 3, 'web': FOUR}
        self.assertIs(loads.does_fit(**told), True)
        self.assertEqual(loads.rim(**told), (1, 1, 1, 1))
        self.assertEqual(loads.passing(**told), ((0, 1, 1), (0, 1, 1)))
        self.assertIs(loads.is_inner(**told), False)
        self.assertEqual(loads.switched(roads=('a', 'b'), **told), (2, 2, 1, 1, 2))
        self.assertEqual(loads.needed_room(load=(1, 1, 1, 1, 2), web=FOUR), 2)

    def test_arguments_of_flips_and_leading_by_name(self):
        told = {'load': (1, 1, 1, 1, 2), 'room': 2, 'web': FOUR}
        self.assertEqual(flips.flipped(way=1, road='r', web=FOUR), web_of('a c r', 'b d r'))
        self.assertEqual(flips.beside(road='r', **told), (0, 2))
        self.assertEqual(flips.carried(way=2, road='r', **told), (1, 1, 1, 1, 2))
        self.assertEqual(flips.led(script=(('r', 2),), web=FOUR), web_of('a d r', 'c b r'))
        self.assertEqual(flips.led_load(script=(('r', 2),), **told), (1, 1, 1, 1, 2))
        value = leading.same_kind(other=TREE, one=FOUR)
        self.assertIs(leading.shows_same_kind(value=value, other=TREE, one=FOUR), True)
        self.assertEqual(leading.led_over(load=(2, 1, 2, 1, 1), room=3, other=TREE, one=FOUR), (2, 1, 2, 1, 1))

    def test_arguments_of_lots_and_counting_by_name(self):
        told = {'ends': (1, 1, 2, 2), 'room': 2, 'web': FOUR}
        value = lots.some_load(**told)
        self.assertEqual(value, ('load', (1, 1, 2, 2, 0)))
        self.assertIs(lots.shows_some_load(value=value, **told), True)
        self.assertEqual(lots.borne(road='r', **told), (0, 0, 2))
        self.assertEqual(lots.load_with(number=0, road='r', **told), (1, 1, 2, 2, 0))
        self.assertEqual(lots.least_room(ends=(2, 2, 2), web=LONE), ('room', 3))
        self.assertEqual(counting.count(**told), 1)
        self.assertEqual(counting.table(number=1, room=1), ((0, 1), (1, 0)))
        self.assertEqual(counting.far_count(modulus=7, room=1, rounds=2, ends=()), 4)

    def test_arguments_of_numbering_and_growing_by_name(self):
        told = {'ends': (1, 1, 1, 1), 'room': 2, 'web': FOUR}
        load = numbering.load_at(number=0, **told)
        self.assertEqual([load, numbering.place_of(load=load, room=2, web=FOUR)], [(1, 1, 1, 1, 0), 0])
        self.assertEqual(numbering.next_load(load=load, room=2, web=FOUR), (1, 1, 1, 1, 2))
        self.assertEqual(growing.growth(**told), ((1, 1), (1, 1)))
        self.assertEqual(growing.grown(n=-3, **told), -2)
        self.assertEqual(growing.inner_count(**told), 0)
        value = growing.ever_inner(**told)
        self.assertEqual(value[0], 'inner')
        self.assertIs(growing.shows_ever_inner(value=value, **told), True)

    def test_arguments_of_layers_and_flat_by_name(self):
        load = (1, 1, 1, 1, 2)
        value = layers.layers(load=load, room=2, web=FOUR)
        self.assertIs(layers.shows_layers(value=value, load=load, room=2, web=FOUR), True)
        self.assertEqual(layers.tracks(layer=('a', 'b'), web=FOUR), (('a', 'b'),))
        self.assertEqual(flat.rim_walk(web=FOUR), ('a', 'b', 'c', 'd'))
        rows = flat.trips(load=load, web=FOUR)
        self.assertEqual(flat.load_of(rows=rows, web=FOUR), load)
        self.assertEqual(flat.flat_flipped(road='r', web=FOUR), web_of('d a r', 'b c r'))
        self.assertEqual(flat.flat_carried(road='r', load=load, web=FOUR), (1, 1, 1, 1, 0))

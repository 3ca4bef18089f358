"""Section 2 over the whole program: how functions are called, and what they leave as it was."""

import inspect
import unittest
from copy import deepcopy

from tests.samples import FOUR, LONE, LOOP, RING, THREE, TREE, web_of
from tests.test_interface import PARAMETERS
from threeroadcars import counting, cutting, flat, flips, growing, layers, leading, loads, lots, numbering, webs
from threeroadcars.errors import WebError
from threeroadcars.webs import Web

ONES, LOAD = (1, 1, 1, 1), (1, 1, 1, 1, 2)
SCRIPT = (('r', 1), ('r', 2))
CROSS = web_of('a c s', 's b d')
CALLS = {
    webs.bridges: [(FOUR,), (RING,), (web_of('a a b', 'b c c'),)],
    webs.renamed: [(FOUR, ('b', 'a', 'w', 'd', 'c')), (FOUR, ('b', 'a')), (FOUR, None)],
    webs.same_meets: [(FOUR, TREE), (FOUR, CROSS)],
    loads.does_fit: [(FOUR, 2, LOAD), (FOUR, 1, LOAD), (FOUR, 2, [1]), (FOUR, -1, LOAD)],
    loads.rim: [(FOUR, 2, LOAD), (FOUR, 1, LOAD), (FOUR, None, None)],
    loads.passing: [(FOUR, 2, LOAD), (FOUR, 1, LOAD), (FOUR, None, None)],
    loads.needed_room: [(FOUR, LOAD), (FOUR, ONES)],
    loads.is_inner: [(FOUR, 4, (2, 2, 2, 2, 2)), (FOUR, 2, LOAD), (FOUR, 1, LOAD)],
    loads.switched: [(FOUR, 3, LOAD, ('a', 'b')), (FOUR, 3, LOAD, ('b', 'a')), (FOUR, 1, LOAD, ())],
    flips.flipped: [(FOUR, 'r', 1), (FOUR, 'r', 3), (FOUR, 'a', 3)],
    flips.beside: [(FOUR, 2, LOAD, 'r'), (FOUR, 2, LOAD, 'a'), (FOUR, 1, LOAD, 'a')],
    flips.carried: [(FOUR, 2, LOAD, 'r', 2), (FOUR, 2, LOAD, 'r', 0), (FOUR, 2, ONES, 'r', 0)],
    flips.led: [(FOUR, SCRIPT), (FOUR, [SCRIPT]), (FOUR, SCRIPT + (('a', 1),))],
    flips.led_load: [(FOUR, 2, LOAD, SCRIPT), (FOUR, 2, LOAD, None), (FOUR, 1, LOAD, None)],
    leading.same_kind: [(FOUR, CROSS), (FOUR, RING), (LOOP, RING)],
    leading.shows_same_kind: [(FOUR, CROSS, ('led', (('r', 1),), (('r', 's'),))), (FOUR, RING, ('ends',)), (FOUR, CROSS, None)],
    leading.led_over: [(FOUR, CROSS, 2, LOAD), (FOUR, RING, 2, LOAD), (FOUR, CROSS, 1, LOAD)],
    lots.some_load: [(FOUR, 2, ONES), (FOUR, 2, (2, 2, 2, 0)), (FOUR, 2, (1, 0, 0, 0)), (FOUR, 2, [1])],
    lots.shows_some_load: [(FOUR, 2, ONES, ('load', LOAD)), (FOUR, 2, ONES, None), (FOUR, 2, None, None)],
    lots.borne: [(FOUR, 2, ONES, 'r'), (FOUR, 2, (2, 2, 2, 0), 'r'), (FOUR, 2, ONES, 'x')],
    lots.load_with: [(FOUR, 2, ONES, 'r', 2), (FOUR, 2, ONES, 'r', 1), (FOUR, 2, ONES, 'r', 3), (FOUR, 2, ONES, 'x', 3)],
    lots.least_room: [(FOUR, ONES), (FOUR, (3, 1, 0, 0)), (FOUR, (1, 0, 0, 0)), (FOUR, [1])],
    counting.count: [(FOUR, 2, ONES), (THREE, 60, ()), (THREE, 61, ()), (FOUR, 2, [1])],
    counting.table: [(2, 1), (61, 1), (2, 3)],
    counting.far_count: [((1, 1), 10 ** 18, 20, 9973), ((1, 1), 1, 21, 9973), ((1, 1), 1, 20, 9), ((1, 1), 0, 20, 9)],
    numbering.load_at: [(FOUR, 2, ONES, 1), (FOUR, 2, ONES, 2), (FOUR, 2, [1], 2), (FOUR, 61, [1], 2)],
    numbering.place_of: [(FOUR, 2, LOAD), (FOUR, 1, LOAD), (FOUR, 61, LOAD)],
    numbering.next_load: [(FOUR, 2, ONES + (0,)), (FOUR, 2, LOAD), (FOUR, 1, LOAD), (FOUR, 61, LOAD)],
    growing.growth: [(FOUR, 2, ONES), (FOUR, 2, (2, 0, 0, 0)), (FOUR, 2, (1, 0, 0, 0)), (THREE, 7, ()), (FOUR, 2, [1])],
    growing.grown: [(FOUR, 2, ONES, -3), (FOUR, 2, ONES, None), (FOUR, 2, (1, 0, 0, 0), None)],
    growing.inner_count: [(FOUR, 6, (3, 3, 3, 3)), (FOUR, 6, (1, 0, 0, 0)), (THREE, 7, ())],
    growing.ever_inner: [(FOUR, 2, ONES), (FOUR, 4, (1, 1, 1, 3)), (THREE, 0, ()), (FOUR, 2, (1, 0, 0, 0))],
    growing.shows_ever_inner: [(FOUR, 2, ONES, ('inner', 2, (2,) * 5)), (FOUR, 4, (1, 1, 1, 3), ('lot', ('d',))),
                               (FOUR, 2, ONES, None), (FOUR, 2, (1, 0, 0, 0), None)],
    layers.layers: [(FOUR, 2, LOAD), (FOUR, 41, LOAD), (FOUR, 1, LOAD), (RING, 41, LOAD)],
    layers.shows_layers: [(FOUR, 2, LOAD, (('a', 'c', 'r'), ('b', 'd', 'r'))), (FOUR, 2, LOAD, None), (RING, 2, LOAD, None)],
    layers.tracks: [(FOUR, ('a', 'b', 'c', 'd')), (FOUR, ('b', 'a')), (RING, None)],
    flat.rim_walk: [(FOUR,), (RING,)],
    flat.trips: [(FOUR, LOAD), (FOUR, ONES), (RING, ONES)],
    flat.load_of: [(FOUR, ((('a', 'd'), 2), (('b', 'c'), 10 ** 12))), (FOUR, ((('a', 'c'), 2), (('b', 'd'), 1))), (RING, ())],
    flat.flat_flipped: [(FOUR, 'r'), (FOUR, 'a'), (RING, 'r')],
    flat.flat_carried: [(FOUR, LOAD, 'r'), (FOUR, LOAD, 'a'), (FOUR, ONES, 'a'), (RING, ONES, 'a')],
    cutting.cut: [(FOUR, 'r', 's', 'r'), (RING, 'q', 'm', 'n'), (FOUR, 'r', 's', 's'), (FOUR, 'a', 's', 's')],
    cutting.joined: [(FOUR, 'a', 'c', 'a'), (FOUR, 'a', 'a', 'a'), (FOUR, 'a', 'c', 'b'), (FOUR, 'r', 'r', 'b')],
    cutting.hung: [(FOUR, 'r', 'h', 'e'), (FOUR, 'r', 'h', 'h'), (FOUR, 'x', 'h', 'h')],
    cutting.taken: [(FOUR, 'd'), (LONE, 'a'), (FOUR, 'r')],
}


def told_by(function, *given, **named):
    """What a call returns, or its error and the value."""
    try:
        return function(*given, **named)
    except WebError as error:
        return type(error), error.value


def apart(value):
    """An equal value, made apart from the given one."""
    return Web(''.join(list(value.text))) if isinstance(value, Web) else deepcopy(value)


class Conventions(unittest.TestCase):

    def test_all_functions_of_sections_4_to_14_are_called_here(self):
        named = {getattr(module, name) for module, names in PARAMETERS.items() for name in names}
        self.assertEqual({function for function in named if function.__module__ != 'threeroadcars.journals'}, set(CALLS))

    def test_by_names_in_another_sequence(self):
        for function, calls in CALLS.items():
            names = list(inspect.signature(function).parameters)
            for given in calls:
                told = dict(list(zip(names, given))[::-1])
                with self.subTest(function.__name__, given=given):
                    self.assertEqual(told_by(function, **told), told_by(function, *given))
                    self.assertEqual(told_by(function, given[0], **dict(list(zip(names, given))[:0:-1])),
                                     told_by(function, *given))

    def test_asked_again_and_of_equal_values_made_apart(self):
        for function, calls in CALLS.items():
            for given in calls:
                with self.subTest(function.__name__, given=given):
                    first = told_by(function, *given)
                    self.assertEqual(told_by(function, *given), first)
                    self.assertEqual(told_by(function, *[apart(value) for value in given]), first)

    def test_calls_that_return_and_calls_that_raise(self):
        for function, calls in CALLS.items():
            raised = [isinstance(told, tuple) and told and isinstance(told[0], type)
                      for told in [told_by(function, *given) for given in calls]]
            self.assertFalse(raised[0], function.__name__)
            if function not in (webs.bridges, webs.same_meets, leading.same_kind, leading.shows_same_kind):
                self.assertTrue(raised[-1], function.__name__)

    def test_nothing_changes_its_arguments(self):
        for function, calls in CALLS.items():
            for given in calls:
                ahead = [apart(value) for value in given]
                told_by(function, *given)
                with self.subTest(function.__name__, given=given):
                    self.assertEqual(list(given), ahead)
                    for value, same in zip(given, ahead):
                        if isinstance(value, Web):
                            self.assertEqual(vars(value), vars(same))

    def test_returned_sequences_are_tuples(self):
        for function, calls in CALLS.items():
            for given in calls:
                self.assertFalse(self.has_lists(told_by(function, *given)), function.__name__)

    def has_lists(self, value):
        if isinstance(value, tuple) and value and isinstance(value[0], type):
            return False
        return isinstance(value, (list, dict, set)) or isinstance(value, tuple) and any(map(self.has_lists, value))

    def test_shows_functions_tell_a_bool(self):
        for function, calls in CALLS.items():
            if function.__name__.startswith('shows_') or function in (loads.does_fit, loads.is_inner, webs.same_meets):
                told = [told_by(function, *given) for given in calls]
                self.assertTrue(all(type(each) is bool for each in told if not isinstance(each, tuple)))
                self.assertIs(told[0], True)

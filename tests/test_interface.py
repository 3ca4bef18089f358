"""The interface: names, the files that define them, parameters, attributes."""

import inspect
import unittest

from tests.samples import FOUR, LOOP, WEBS, web_of
from threeroadcars import loads, webs

PARAMETERS = {
    webs: {
        'bridges': ['web'],
        'renamed': ['web', 'names'],
        'same_meets': ['one', 'other'],
    },
    loads: {
        'does_fit': ['web', 'room', 'load'],
        'rim': ['web', 'room', 'load'],
        'passing': ['web', 'room', 'load'],
        'needed_room': ['web', 'load'],
        'is_inner': ['web', 'room', 'load'],
        'switched': ['web', 'room', 'load', 'roads'],
    },
}


class Interface(unittest.TestCase):

    def test_functions_are_defined_in_their_files_with_their_parameters(self):
        for module, functions in PARAMETERS.items():
            for name, names in functions.items():
                with self.subTest(name):
                    function = getattr(module, name)
                    self.assertEqual(function.__module__, module.__name__)
                    told = inspect.signature(function).parameters
                    self.assertEqual(list(told), names)
                    self.assertEqual({each.kind.name for each in told.values()}, {'POSITIONAL_OR_KEYWORD'})

    def test_web_is_defined_in_its_file_with_its_parameter(self):
        self.assertEqual(webs.Web.__module__, 'threeroadcars.webs')
        self.assertEqual(list(inspect.signature(webs.Web).parameters), ['text'])
        self.assertIn('__len__', vars(webs.Web))
        self.assertIn('__eq__', vars(webs.Web))

    def test_attributes_are_set_when_a_web_is_created(self):
        for web in WEBS:
            for name in ('text', 'roads', 'inner', 'ends', 'junctions', 'rounds'):
                self.assertTrue(hasattr(web, name), name)

    def test_arguments_by_name(self):
        self.assertEqual(webs.Web(text=FOUR.text), FOUR)
        self.assertEqual(webs.bridges(web=FOUR), ('r',))
        self.assertEqual(webs.renamed(names=('s', 't'), web=LOOP), web_of('s s t'))
        self.assertIs(webs.same_meets(other=FOUR, one=FOUR), True)
        told = {'load': (1, 1, 1, 1, 2), 'room': 3, 'web': FOUR}
        self.assertIs(loads.does_fit(**told), True)
        self.assertEqual(loads.rim(**told), (1, 1, 1, 1))
        self.assertEqual(loads.passing(**told), ((0, 1, 1), (0, 1, 1)))
        self.assertIs(loads.is_inner(**told), False)
        self.assertEqual(loads.switched(roads=('a', 'b'), **told), (2, 2, 1, 1, 2))
        self.assertEqual(loads.needed_room(load=(1, 1, 1, 1, 2), web=FOUR), 2)

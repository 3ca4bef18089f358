"""Section 17: the errors."""

import unittest

from tests.samples import ANY_VALUES, NO_ROOMS
from threeroadcars import errors

NAMES = (
    'WebError BadWeb BadNames BadRoom BadLoad BadRoads BadRoad BadWay BadScript Unlike '
    'BadEnds NoRoad BadNumber BadRounds BadModulus OddEnds BadTimes HasRounds BadLayer '
    'BadTrips NoInner BadEnd BadName Full Lone Tight Borne Unequal Bridge NothingToUndo '
    'NothingToRedo NoTrial BadJournal BadWords'
).split()


class Errors(unittest.TestCase):

    def test_all_names_are_there_and_no_other_error(self):
        self.assertEqual(len(NAMES), 34)
        there = [name for name, worth in vars(errors).items() if isinstance(worth, type)]
        self.assertEqual(sorted(there), sorted(NAMES))

    def test_each_error_is_directly_below_web_error(self):
        self.assertEqual(errors.WebError.__bases__, (ValueError,))
        for name in NAMES[1:]:
            with self.subTest(name):
                self.assertEqual(getattr(errors, name).__bases__, (errors.WebError,))

    def test_each_error_is_defined_in_the_file(self):
        for name in NAMES:
            self.assertEqual(getattr(errors, name).__module__, 'threeroadcars.errors')
            self.assertEqual(getattr(errors, name).__name__, name)

    def test_each_error_keeps_any_value(self):
        for name in NAMES:
            for value in ANY_VALUES + NO_ROOMS + ((1, 2), ('a', 1)):
                with self.subTest(name, value=value):
                    self.assertIs(getattr(errors, name)(value).value, value)

    def test_the_value_is_there_when_the_error_is_caught(self):
        for name in NAMES:
            value = [name]
            with self.assertRaises(errors.WebError) as caught:
                raise getattr(errors, name)(value)
            self.assertIs(caught.exception.value, value)
            self.assertEqual(caught.exception.__class__.__name__, name)

    def test_errors_are_value_errors(self):
        for name in NAMES:
            with self.assertRaises(ValueError):
                raise getattr(errors, name)(None)

    def test_an_error_is_no_error_of_another_name(self):
        self.assertNotIsInstance(errors.BadRoad(1), errors.BadRoads)
        self.assertNotIsInstance(errors.BadRoads(1), errors.BadRoad)
        self.assertNotIsInstance(errors.WebError(1), errors.BadWeb)

"""The errors: how they are made, what they keep, and what they stand under."""

import itertools
import unittest

from heldapart import errors
from heldapart.errors import HeldError

FIELDS = {
    "BadText": (),
    "Unfit": (),
    "BadProgram": ("error",),
    "NoFunction": ("name",),
    "Untold": ("name", "way"),
    "Open": ("name", "way"),
    "TooMany": ("limit",),
    "TooManyEdits": (),
    "NothingToUndo": (),
    "NothingToRedo": (),
    "NoVersion": ("given",),
    "BadLog": ("place",),
}


def odd_values():
    """Ordinary and odd values, made anew for each call."""
    deep = ()
    for _ in range(39):
        deep = [deep]
    return [
        "turn", (1, 0, 2), 7, 8192, "form", ("clause", 3),
        None, True, False, 0, 1, -1, 10 ** 399, -(10 ** 399),
        "", "a" * 20000, "line\nfeed", "%s {0}", (), [], {}, [1, [2]], {"a": [1]}, {(1, 2): {}},
        deep, ((((),),),), errors.BadText(), errors.Open("turn", (1,)), HeldError(),
    ]


def fillings(fields):
    """All values for one field; for two each value beside the one behind it."""
    values = odd_values()
    if len(fields) == 1:
        return [(value,) for value in values]
    return [(value, values[(at + 1) % len(values)]) for at, value in enumerate(values)]


class Errors(unittest.TestCase):
    def made(self):
        """Each class with each filling, made by place, by name, and by both."""
        for word, fields in FIELDS.items():
            kind = getattr(errors, word)
            if not fields:
                yield kind, fields, (), kind()
                continue
            for filling in fillings(fields):
                yield kind, fields, filling, kind(*filling)
                yield kind, fields, filling, kind(**dict(zip(fields, filling)))
                back = reversed(list(zip(fields, filling)))
                yield kind, fields, filling, kind(**dict(back))
                yield kind, fields, filling, kind(filling[0], **dict(zip(fields[1:], filling[1:])))

    def test_fields_are_kept_just_as_passed(self):
        for kind, fields, filling, error in self.made():
            self.assertIs(type(error), kind)
            for field, value in zip(fields, filling):
                self.assertIs(getattr(error, field), value)

    def test_no_other_fields(self):
        for kind, fields, filling, error in self.made():
            self.assertEqual(sorted(vars(error)), sorted(fields), kind)

    def test_what_is_passed_is_not_changed(self):
        for word, fields in FIELDS.items():
            if fields:
                passed = fillings(fields)
                before = repr(passed)
                for filling in passed:
                    getattr(errors, word)(*filling)
                self.assertEqual(repr(passed), before)

    def test_two_of_a_kind_keep_their_own(self):
        for word, fields in FIELDS.items():
            if fields:
                kind = getattr(errors, word)
                first, second = kind(*["a"] * len(fields)), kind(*["b"] * len(fields))
                self.assertEqual([getattr(first, field) for field in fields], ["a"] * len(fields))
                self.assertEqual([getattr(second, field) for field in fields], ["b"] * len(fields))

    def test_what_they_stand_under(self):
        self.assertEqual(HeldError.__bases__, (ValueError,))
        for word in FIELDS:
            with self.subTest(word):
                self.assertEqual(getattr(errors, word).__bases__, (HeldError,))

    def test_none_stands_under_another_one(self):
        for one, other in itertools.permutations(FIELDS, 2):
            self.assertFalse(issubclass(getattr(errors, one), getattr(errors, other)), (one, other))

    def test_raised_and_caught(self):
        for kind, fields, filling, error in self.made():
            for caught in (kind, HeldError, ValueError):
                with self.assertRaises(caught) as held:
                    raise error
                self.assertIs(held.exception, error)
                for field, value in zip(fields, filling):
                    self.assertIs(getattr(held.exception, field), value)

    def test_not_caught_as_another_one(self):
        for one, other in itertools.permutations(FIELDS, 2):
            fields = FIELDS[one]
            try:
                raise getattr(errors, one)(*["a"] * len(fields))
            except getattr(errors, other):
                self.fail((one, other))
            except HeldError as error:
                self.assertIs(type(error), getattr(errors, one))

    def test_held_error_itself(self):
        with self.assertRaises(ValueError) as held:
            raise HeldError()
        self.assertIs(type(held.exception), HeldError)

    def test_they_can_be_told_in_words(self):
        for kind, fields, filling, error in self.made():
            self.assertIsInstance(str(error), str)
            self.assertIsInstance(repr(error), str)

    def test_all_and_no_others(self):
        found = [word for word, value in vars(errors).items() if isinstance(value, type)]
        self.assertEqual(sorted(found), sorted([*FIELDS, "HeldError"]))

    def test_wrong_numbers_of_arguments(self):
        for word, fields in FIELDS.items():
            if fields:
                kind = getattr(errors, word)
                self.assertRaises(TypeError, kind)
                self.assertRaises(TypeError, kind, *["a"] * (len(fields) + 1))
                self.assertRaises(TypeError, kind, **{field + "s": 1 for field in fields})


if __name__ == "__main__":
    unittest.main()

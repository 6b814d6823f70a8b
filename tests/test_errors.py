"""[4] The refusals."""

import unittest

from faceonface import errors
from helper import odd_things, same, snapshot

FIELDS = {
    "Wrong": ["at"],
    "NoName": ["name"],
    "Unfit": [],
    "Stopped": ["at"],
    "Unlike": [],
    "NoNumber": ["number"],
    "TooFew": ["many", "least"],
    "HasCut": ["at"],
    "NoWay": [],
    "TooGreat": ["most"],
    "TooMany": ["most"],
    "NoText": [],
    "NoBeat": ["at"],
    "Nothing": [],
}
CLASSES = {name: getattr(errors, name) for name in FIELDS}


def made(name, thing):
    """The refusal of this name, made of the thing in each place."""
    return CLASSES[name](*[thing for _ in FIELDS[name]])


class Families(unittest.TestCase):
    def test_fourteen_and_their_base(self):
        self.assertEqual(len(CLASSES), 14)
        self.assertEqual(errors.StampError.__bases__, (ValueError,))
        self.assertEqual(len(set(CLASSES.values()) - {errors.StampError}), 14)

    def test_raised_and_caught_as_itself_and_its_bases(self):
        for name, kind in CLASSES.items():
            for caught in (kind, errors.StampError, ValueError):
                with self.subTest(name=name, caught=caught):
                    with self.assertRaises(caught) as held:
                        raise made(name, 3)
                    self.assertIs(type(held.exception), kind)

    def test_caught_as_none_of_the_others(self):
        for name, kind in CLASSES.items():
            for other in CLASSES.values():
                if other is not kind:
                    with self.subTest(name=name, other=other):
                        self.assertNotIsInstance(made(name, 3), other)
                        self.assertFalse(issubclass(kind, other))

    def test_stamp_error_of_one_text(self):
        for text in ("", "no", "two\nlines", "x" * 900):
            with self.assertRaises(ValueError) as held:
                raise errors.StampError(text)
            self.assertIs(type(held.exception), errors.StampError)
            self.assertEqual(str(held.exception), text)
            for kind in CLASSES.values():
                self.assertNotIsInstance(held.exception, kind)


class Fields(unittest.TestCase):
    def test_the_very_things(self):
        for name, fields in FIELDS.items():
            for thing in odd_things():
                error = made(name, thing)
                for field in fields:
                    self.assertIs(getattr(error, field), thing)

    def test_each_in_its_own_place(self):
        many, least = [1], [1]
        error = errors.TooFew(many, least)
        self.assertIs(error.many, many)
        self.assertIs(error.least, least)

    def test_no_other_fields(self):
        for name, fields in FIELDS.items():
            self.assertEqual(sorted(vars(made(name, 3))), sorted(fields))

    def test_changed_afterwards(self):
        for name, fields in FIELDS.items():
            for thing, change in (([1, [2]], lambda held: held[1].append(3)), ({"a": 1}, lambda held: held.clear())):
                error = made(name, thing)
                change(thing)
                for field in fields:
                    self.assertIs(getattr(error, field), thing)

    def test_making_changes_nothing(self):
        for name in FIELDS:
            for thing in odd_things():
                ahead = snapshot(thing)
                made(name, thing)
                self.assertTrue(same(ahead, thing))

    def test_every_message_can_be_shown(self):
        for name in FIELDS:
            for thing in odd_things():
                self.assertNotEqual(str(made(name, thing)), "")

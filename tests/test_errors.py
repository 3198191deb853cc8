"""[3]: the errors and their fields."""

import unittest

from proseknot import errors

FIELDS = {
    "InvalidWeb": ("value",),
    "InvalidText": ("text", "at"),
    "InvalidEdit": ("value",),
    "InvalidNumber": ("value",),
    "InvalidLine": ("line", "at"),
    "NoPiece": ("name",),
    "NoText": ("name",),
    "NotWhole": ("fault",),
    "Refused": ("reason",),
    "Clash": ("reason",),
    "NothingToUndo": ("word",),
    "Undefined": ("what",),
}

FIRST = {
    "value": [1, (None, True)], "text": "@\n", "at": 2, "line": "undo ", "name": "say",
    "fault": ("missing", 0, 1, "say"), "reason": "made", "word": "undo", "what": "place",
}
SECOND = {
    "value": -7, "text": "", "at": 0, "line": "", "name": "",
    "fault": ("circle", "say"), "reason": "place", "word": "redo", "what": "circle",
}


def caught_by(error, kind):
    try:
        raise error
    except kind:
        return True
    except Exception:
        return False


class Errors(unittest.TestCase):
    def test_fields_of_two_objects_by_position(self):
        for name, fields in FIELDS.items():
            kind = getattr(errors, name)
            one = kind(*[FIRST[field] for field in fields])
            other = kind(*[SECOND[field] for field in fields])
            for field in fields:
                self.assertIs(getattr(one, field), FIRST[field], name)
                self.assertIs(getattr(other, field), SECOND[field], name)

    def test_fields_by_name(self):
        for name, fields in FIELDS.items():
            one = getattr(errors, name)(**{field: FIRST[field] for field in fields})
            for field in fields:
                self.assertIs(getattr(one, field), FIRST[field], name)

    def test_each_stands_directly_under_knot_error(self):
        self.assertEqual(errors.KnotError.__bases__, (ValueError,))
        for name in FIELDS:
            self.assertEqual(getattr(errors, name).__bases__, (errors.KnotError,), name)

    def test_caught_by_itself_and_those_above_and_no_other(self):
        for name, fields in FIELDS.items():
            error = getattr(errors, name)(*[FIRST[field] for field in fields])
            self.assertTrue(caught_by(error, errors.KnotError), name)
            self.assertTrue(caught_by(error, ValueError), name)
            for other in FIELDS:
                self.assertEqual(caught_by(error, getattr(errors, other)), name == other, (name, other))

    def test_arguments_are_neither_lacking_nor_too_many(self):
        for name, fields in FIELDS.items():
            kind = getattr(errors, name)
            self.assertRaises(TypeError, kind)
            self.assertRaises(TypeError, kind, *[FIRST[field] for field in fields], 1)

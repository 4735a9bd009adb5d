import unittest

from tornentries import errors

FIELDS = {
    "Spoilt": (("why", "path", "number"), ("ring", (0, 3, 1, 2), 7)),
    "NoTable": (("path",), ((0, 3, 1, 2),)),
    "NoTag": (("tag",), (70000,)),
    "NoShare": ((), ()),
    "Taken": (("tag",), (9,)),
    "NoPiece": (("k",), (3,)),
    "TooMany": ((), ()),
    "TooDeep": ((), ()),
    "TooGreat": ((), ()),
    "NoDeed": ((), ()),
    "Raw": (("path", "tag"), ((1,), 5)),
    "NoWay": ((), ()),
    "NoGrid": ((), ()),
    "Busy": ((), ()),
    "NoText": (("line",), (4,)),
    "NoLine": ((), ()),
    "NoReader": (("number",), (2,)),
}


class ErrorsTest(unittest.TestCase):
    def test_places(self):
        self.assertEqual(errors.TornError.__bases__, (ValueError,))
        for name in FIELDS:
            with self.subTest(name):
                above = LookupError if name == "NoReader" else errors.TornError
                self.assertEqual(getattr(errors, name).__bases__, (above,))
        self.assertFalse(issubclass(errors.NoReader, errors.TornError))
        self.assertFalse(issubclass(errors.NoReader, ValueError))

    def test_fields(self):
        for name, (fields, worths) in FIELDS.items():
            with self.subTest(name):
                error = getattr(errors, name)(*worths)
                self.assertEqual(vars(error), dict(zip(fields, worths)))

    def test_wrong_makings(self):
        for name, (fields, worths) in FIELDS.items():
            if fields:
                with self.subTest(name), self.assertRaises(TypeError):
                    getattr(errors, name)()

    def test_none_as_a_field(self):
        self.assertIsNone(errors.NoTable(None).path)
        self.assertIsNone(errors.NoTag(None).tag)
        self.assertIsNone(errors.NoPiece(None).k)
        self.assertIsNone(errors.NoReader(None).number)
        self.assertIsNone(errors.NoText(None).line)
        self.assertIsNone(errors.Spoilt("head", (), None).number)

    def test_raised_and_caught(self):
        with self.assertRaises(ValueError):
            raise errors.Spoilt("head", (), None)
        with self.assertRaises(LookupError):
            raise errors.NoReader(1)

"""The error classes: their names, base classes and fields."""

import unittest

from pointsenough import errors

WITHOUT_FIELDS = """
BadPrime BadNumber Nought BadLine BadPoints BadTable BadRow BadPoint UnlikePoints BadMany BadRule BadName BadSum
BadDraws BadDegree BadAnswerer BadLines NotText BadNames NoForm BadWeb BadLength BadSizes BadMarked NoProgram BadInputs
BadOutputs BadLayer BadSign BadSums BadBag BadFirst BadDeeds BadLast NoMachine BadStanding BadSealed BadColumn BadResult
NoSheet NoClaim Closed NothingDone BadVars NoSaying BadValues BadCase
""".split()

WITH_FIELD = {
    "TooMany": "most", "SamePlace": "place", "TooGreat": "most", "BadTalk": "at", "BadForm": "at", "BadProgram": "at",
    "BadMachine": "at", "BadSheet": "at", "BadSaying": "at", "BadRuleText": "at", "BadCaseText": "at",
}


class ErrorsTest(unittest.TestCase):
    def test_base_class(self):
        self.assertEqual(errors.PointError.__bases__, (ValueError,))
        self.assertEqual(errors.PointError.__name__, "PointError")
        self.assertIsInstance(errors.PointError(), ValueError)

    def test_how_many(self):
        self.assertEqual(len(set(WITHOUT_FIELDS) | set(WITH_FIELD)), 58)

    def test_there_are_no_others(self):
        told = {name for name, value in vars(errors).items() if isinstance(value, type)}
        self.assertEqual(told, {"PointError"} | set(WITHOUT_FIELDS) | set(WITH_FIELD))

    def test_each_is_a_direct_subclass_of_its_own_file(self):
        for name in WITHOUT_FIELDS + list(WITH_FIELD):
            kind = getattr(errors, name)
            self.assertEqual(kind.__bases__, (errors.PointError,), name)
            self.assertEqual(kind.__name__, name)
            self.assertEqual(kind.__module__, "pointsenough.errors", name)

    def test_those_without_fields(self):
        for name in WITHOUT_FIELDS:
            error = getattr(errors, name)()
            for field in ("most", "place", "at"):
                self.assertFalse(hasattr(error, field), (name, field))

    def test_fields_are_set_at_creation(self):
        for name, field in WITH_FIELD.items():
            for value in (0, 3, 200):
                error = getattr(errors, name)(value)
                self.assertEqual(getattr(error, field), value, name)

    def test_objects_do_not_share_fields(self):
        first, second = errors.TooMany(1), errors.TooMany(2)
        self.assertEqual((first.most, second.most), (1, 2))


if __name__ == "__main__":
    unittest.main()

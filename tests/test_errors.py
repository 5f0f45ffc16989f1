import unittest

from tonguetower import errors

FIELDS = {
    "NoTongue": ("word", "head", "at"),
    "NoTerm": ("word", "at"),
    "NoPart": ("word", "function", "at"),
    "NoText": ("at", "wants"),
    "NoMaking": ("at", "why"),
    "Unmade": ("f", "at", "why"),
    "NoBody": ("f",),
    "TooBig": ("most",),
    "TooLong": ("most",),
    "NoUse": ("at",),
    "NoFold": ("word", "head"),
    "Twice": ("name",),
    "NoName": ("name",),
    "Clash": ("at",),
    "BadText": ("row",),
    "NoRow": (),
}

BESIDE = {"NoFunction": (KeyError, "f"), "NoItem": (LookupError, "name"), "NotMade": (LookupError, "f")}

ALL = {**FIELDS, **{name: (field,) for name, (_, field) in BESIDE.items()}}


def deep_thing():
    thing = ()
    for _ in range(5000):
        thing = (thing,)
    return thing


class ErrorsTest(unittest.TestCase):
    def test_right_under(self):
        self.assertEqual(errors.TowerError.__bases__, (ValueError,))
        for name in FIELDS:
            with self.subTest(name):
                self.assertEqual(getattr(errors, name).__bases__, (errors.TowerError,))

    def test_beside(self):
        for name, (base, _) in BESIDE.items():
            with self.subTest(name):
                self.assertEqual(getattr(errors, name).__bases__, (base,))
        self.assertFalse(issubclass(errors.NoFunction, errors.TowerError))

    def test_names(self):
        for name in ALL:
            self.assertEqual(getattr(errors, name).__name__, name)
            self.assertEqual(getattr(errors, name).__module__, "tonguetower.errors")

    def check_kept(self, error, fields, things):
        for field, thing in zip(fields, things):
            self.assertIs(getattr(error, field), thing)

    def test_kept_by_place_and_by_name(self):
        some = [[1], {"a": []}, object(), deep_thing(), None, "", -1, True, 1000, ("fault", "f", "p.f", 0)]
        for name, fields in ALL.items():
            for first in range(len(some)):
                things = [some[(first + k) % len(some)] for k in range(len(fields))]
                with self.subTest(name, first=first):
                    self.check_kept(getattr(errors, name)(*things), fields, things)
                    named = dict(zip(fields, things))
                    self.check_kept(getattr(errors, name)(**named), fields, things)
                    backward = dict(reversed(list(named.items())))
                    self.check_kept(getattr(errors, name)(**backward), fields, things)

    def test_each_object_has_its_own(self):
        one = errors.NoTongue("kind", "IF", 3)
        other = errors.NoTongue("tells", "", 4)
        self.assertEqual((one.word, one.head, one.at), ("kind", "IF", 3))
        self.assertEqual((other.word, other.head, other.at), ("tells", "", 4))

    def test_caught(self):
        for name, fields in FIELDS.items():
            with self.subTest(name):
                with self.assertRaises(errors.TowerError) as told:
                    raise getattr(errors, name)(*fields)
                self.assertIs(type(told.exception), getattr(errors, name))
                self.check_kept(told.exception, fields, fields)
        for name, (base, field) in BESIDE.items():
            with self.subTest(name):
                with self.assertRaises(base) as told:
                    raise getattr(errors, name)("a.b")
                self.assertEqual(getattr(told.exception, field), "a.b")


if __name__ == "__main__":
    unittest.main()

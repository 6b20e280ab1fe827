"""[23], [2]: the error classes, what stands above them, what they take and keep."""

import inspect
import unittest

from fourlooks import errors

CLASSES = {
    "NoBand": (LookupError, "number"), "NoPlace": (LookupError, "place"), "NothingDone": (LookupError, None),
    "BadLine": (ValueError, "number"), "Broken": (ValueError, "place"), "CanNot": (ValueError, None),
    "NotClean": (ValueError, None), "Taken": (ValueError, "point"), "TooMany": (ValueError, None),
    "Unfit": (ValueError, None),
}


class Errors(unittest.TestCase):
    def test_these_classes_and_no_others(self):
        found = {name for name, value in vars(errors).items() if inspect.isclass(value)}
        self.assertEqual(found, set(CLASSES))

    def test_one_class_above_each(self):
        for name, (above, _) in CLASSES.items():
            with self.subTest(name):
                own = getattr(errors, name)
                self.assertEqual(own.__bases__, (above,))
                self.assertEqual(own.__name__, name)
                self.assertEqual(own.__module__, "fourlooks.errors")

    def test_constructors_take_what_stands_in_brackets(self):
        for name, (_, kept) in CLASSES.items():
            with self.subTest(name):
                own = getattr(errors, name)
                self.assertEqual(list(inspect.signature(own).parameters), [kept] if kept else [])
                for told in ((1,), (1, 2)) if kept is None else ((), (1, 2)):
                    with self.assertRaises(TypeError):
                        own(*told)

    def test_what_is_taken_is_kept(self):
        for name, (_, kept) in CLASSES.items():
            own = getattr(errors, name)
            if kept is None:
                self.assertEqual(vars(own()), {})
                continue
            for value in (0, 4, -1, 10 ** 30, (1, 0, -2), [1, 0, -2]):
                with self.subTest(name=name, value=value):
                    self.assertEqual(vars(own(value)), {kept: value})
                    self.assertIs(getattr(own(value), kept), value)
                    self.assertIs(getattr(own(**{kept: value}), kept), value)

    def test_they_are_raised_and_caught_by_name(self):
        for name, (above, kept) in CLASSES.items():
            own = getattr(errors, name)
            for caught in (own, above):
                with self.subTest(name=name, caught=caught):
                    with self.assertRaises(caught):
                        raise own(7) if kept else own()


if __name__ == "__main__":
    unittest.main()

"""[4]: the errors, their bases, what they keep."""

import unittest

from stillopen import errors
from given import ANY_VALUES, Case

OF_PLACES = ("BadOctets", "BadForm", "BadSign", "BadStream", "BadQuestion", "BadMachine", "BadText", "Refused", "Broken")
OF_VALUES = ("NoFact", "NoState", "NoLabel")


class Errors(Case):
    def test_bases(self):
        self.assertEqual(errors.OpenError.__bases__, (ValueError,))
        for name in OF_PLACES + ("TooGreat",):
            self.assertEqual(getattr(errors, name).__bases__, (errors.OpenError,), name)
        for name in OF_VALUES:
            self.assertEqual(getattr(errors, name).__bases__, (KeyError,), name)

    def test_kept(self):
        named = [(name, "at") for name in OF_PLACES] + [("TooGreat", "most")] + [(name, "value") for name in OF_VALUES]
        for name, attribute in named:
            error = getattr(errors, name)
            for value in ANY_VALUES:
                self.assertIs(getattr(error(value), attribute), value, name)
                self.assertIs(getattr(error(**{attribute: value}), attribute), value, name)
            kept = [1]
            told = error(kept)
            kept.append(2)
            self.assertEqual(getattr(told, attribute), [1, 2])

    def test_raised_and_caught(self):
        with self.assertRaises(errors.OpenError):
            raise errors.Refused(None)
        with self.assertRaises(ValueError):
            raise errors.TooGreat(3)
        with self.assertRaises(KeyError):
            raise errors.NoFact([1])
        self.assertNotIsInstance(errors.NoFact(0), errors.OpenError)


if __name__ == "__main__":
    unittest.main()

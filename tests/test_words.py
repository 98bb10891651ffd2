"""[1], [5]: labels and texts."""

import unittest

from stillopen.words import is_label, is_text
from given import ANY_VALUES, Case


class Words(Case):
    def test_labels(self):
        for value in ("a", "z", "ab", "abcdefghijkl", "m" * 12, "open"):
            self.assertIs(is_label(value), True, value)
        for value in ("", "a" * 13, "A", "aB", "a1", "a ", " a", "a\n", "\u00e9", "a-b", "\u0430", None, 1, True, ["a"], ("a",)):
            self.assertIs(is_label(value), False, value)

    def test_texts(self):
        for value in ("", "a", "A b\n", "\u00e9\0\udc80", "x" * 65535):
            self.assertIs(is_text(value), True)
        for value in ("x" * 65536, None, 0, True, [], ["a"], ("a",)):
            self.assertIs(is_text(value), False)

    def test_any_value(self):
        for value in ANY_VALUES:
            self.assertIn(is_label(value), (True, False))
            self.assertIs(is_text(value), isinstance(value, str) and len(value) < 65536)


if __name__ == "__main__":
    unittest.main()

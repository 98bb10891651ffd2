"""[7], [9]: prefixes, streams, endings."""

import itertools
import unittest

from stillopen.errors import BadStream, Refused
from stillopen.streams import (
    check_ending, check_prefix, check_stream, closing, depth, depths, is_ending, is_stream, node_behind, open_labels,
)
from given import ANY_VALUES, Case, as_lists, seeded, some_prefix

A, B, T, END = ("open", "a"), ("open", "close"), ("text", "open"), ("close",)
NO_NUMBERS = (None, -1, True, False, "0", "", (0,), [0], -(10 ** 30))
OF_PREFIXES = (check_prefix, check_stream, depth, depths, open_labels, lambda value: node_behind(value, None))


def rows_of_signs(most):
    """All rows of at most so many signs."""
    for many in range(most + 1):
        yield from itertools.product((A, B, T, END), repeat=many)


def levels(signs, ahead=0):
    """The depths behind no sign, one, two .. up to the first closing that closes nothing."""
    told = [ahead]
    for sign in signs:
        told.append(told[-1] + {"open": 1, "close": -1, "text": 0}[sign[0]])
        if told[-1] < 0:
            return told
    return told


class Prefixes(Case):
    def test_all_short_rows(self):
        for signs in rows_of_signs(5):
            told = levels(signs)
            if told[-1] < 0:
                for call in OF_PREFIXES:
                    self.assertFails(BadStream, len(told) - 2, call, signs)
                self.assertIs(is_stream(signs), False)
                continue
            self.assertEqual(check_prefix(as_lists(signs)), signs)
            self.assertEqual(depth(signs), told[-1])
            self.assertEqual(depths(as_lists(signs)), tuple(told))
            self.assertEqual(is_stream(signs), told[-1] == 0)
            if told[-1] == 0:
                self.assertEqual(check_stream(as_lists(signs)), signs)
            else:
                self.assertFails(BadStream, len(signs), check_stream, signs)

    def test_wrong_values(self):
        for value in (None, 3, "ab", True, {}):
            for call in OF_PREFIXES:
                self.assertFails(BadStream, -1, call, value)
            self.assertIs(is_stream(value), False)
        for wrong in (None, END[0], ("open",), ("open", "A"), ("text", 1), ("close", 1), ((A,),), 7):
            for call in OF_PREFIXES:
                self.assertFails(BadStream, 0, call, [wrong])
                self.assertFails(BadStream, 2, call, (A, T, wrong, END, END, END))
                self.assertFails(BadStream, 1, call, (T, END, wrong))
            self.assertIs(is_stream([wrong]), False)

    def test_tuples(self):
        for call in (check_prefix, check_stream, open_labels, depths):
            self.assertTuples(call([["open", "a"], ["text", "t"], ["close"]]))
            self.assertTuples(call([]))
        given = [["open", "a"], ["close"]]
        told = check_prefix(given)
        given[0][1] = "z"
        given.append(None)
        self.assertEqual(told, (A, END))
        self.assertIs(is_stream([]), True)

    def test_open_labels(self):
        self.assertEqual(open_labels(()), ())
        self.assertEqual(open_labels((A, B, T)), ("a", "close"))
        self.assertEqual(open_labels((B, A, END, ["open", "c"], ("open", "d"), END)), ("close", "c"))
        self.assertEqual(open_labels((("open", "text"), ("text", "close"), ("open", "open"))), ("text", "open"))
        self.assertEqual(open_labels((A, END)), ())

    def test_node_behind(self):
        signs = (T, A, B, END, T, END, B)
        self.assertEqual([node_behind(signs, at) for at in (0, 1, 2, 4, 6)], [1, 6, 4, 5, None])
        self.assertEqual(node_behind(as_lists(signs[:5]), 1), None)
        self.assertEqual(node_behind((A, END), 0), 2)
        self.assertEqual(node_behind((A, A, END, END), 0), 4)
        for at in (3, 5, 7, 8, 10 ** 30) + NO_NUMBERS:
            self.assertFails(Refused, at, node_behind, signs, at)
            self.assertFails(BadStream, 1, node_behind, (T, END), at)
        self.assertFails(Refused, 0, node_behind, (), 0)

    def test_node_behind_many(self):
        chance = seeded(7)
        for _ in range(100):
            signs = some_prefix(chance, 12)
            told = depths(signs)
            for at, sign in enumerate(signs):
                if sign == END:
                    self.assertFails(Refused, at, node_behind, signs, at)
                    continue
                behind = [place for place in range(at + 1, len(signs) + 1) if told[place] == told[at]]
                self.assertEqual(node_behind(signs, at), behind[0] if behind else None)

    def test_any_value(self):
        for value in ANY_VALUES:
            self.assertTuples(self.assertOnly((BadStream,), check_prefix, value))
            self.assertOnly((BadStream,), check_stream, value)
            self.assertIn(is_stream(value), (True, False))
            self.assertOnly((BadStream,), depth, value)
            self.assertOnly((BadStream,), depths, value)
            self.assertOnly((BadStream,), open_labels, value)
            self.assertOnly((BadStream, Refused), node_behind, value, value)
            self.assertOnly((Refused,), node_behind, (A, B, T), value)


class Endings(Case):
    def test_all_short_rows(self):
        for ahead in range(4):
            for signs in rows_of_signs(4):
                told = levels(signs, ahead)
                if told[-1] == 0:
                    self.assertEqual(check_ending(ahead, as_lists(signs)), signs)
                    self.assertIs(is_ending(ahead, signs), True)
                    self.assertIs(is_stream((A,) * ahead + signs), True)
                    continue
                at = len(signs) if told[-1] > 0 else len(told) - 2
                self.assertFails(BadStream, at, check_ending, ahead, signs)
                self.assertIs(is_ending(ahead, as_lists(signs)), False)

    def test_wrong_values(self):
        for value in NO_NUMBERS:
            self.assertFails(Refused, value, check_ending, value, ())
            self.assertFails(Refused, value, check_ending, value, None)
            self.assertFails(Refused, value, is_ending, value, None)
            self.assertFails(Refused, value, closing, value)
        for value in (None, 3, "ab", True):
            self.assertFails(BadStream, -1, check_ending, 1, value)
            self.assertIs(is_ending(1, value), False)
        self.assertFails(BadStream, 1, check_ending, 1, (END, END))
        self.assertFails(BadStream, 1, check_ending, 2, (END, None))
        self.assertFails(BadStream, 2, check_ending, 10 ** 40, (END, END))
        self.assertIs(is_ending(10 ** 40, (END, END)), False)

    def test_closing(self):
        self.assertEqual(closing(0), ())
        self.assertEqual(closing(1), (END,))
        self.assertEqual(closing(3), (END, END, END))
        self.assertEqual(check_ending(500, closing(500)), (END,) * 500)

    def test_rest_of_a_stream(self):
        chance = seeded(9)
        for _ in range(100):
            prefix = some_prefix(chance, chance.randint(0, 12))
            stream = prefix + closing(depth(prefix))
            self.assertEqual(check_stream(stream), stream)
            for cut in range(len(stream) + 1):
                self.assertIs(is_ending(depth(stream[:cut]), stream[cut:]), True)
                self.assertIs(is_ending(depth(stream[:cut]) + 1, stream[cut:]), False)
                self.assertEqual(len(open_labels(stream[:cut])), depth(stream[:cut]))

    def test_tuples(self):
        self.assertTuples(check_ending(1, [["open", "a"], ["close"], ["close"]]))
        self.assertTuples(closing(2))

    def test_any_value(self):
        for value in ANY_VALUES:
            self.assertOnly((BadStream, Refused), check_ending, value, value)
            self.assertOnly((BadStream,), check_ending, 2, value)
            self.assertOnly((Refused,), is_ending, value, value)
            self.assertIn(is_ending(1, value), (True, False))
            if not isinstance(value, int) or value < 10 ** 6:
                self.assertOnly((Refused,), closing, value)


class Great(Case):
    def test_great(self):
        deep = (A,) * 1000 + (END,) * 1000
        for call in (check_prefix, check_stream, is_stream, depth, depths, open_labels):
            self.assertWithin(2, call, deep)
        self.assertEqual(self.assertWithin(2, node_behind, deep, 0), 2000)
        self.assertEqual(open_labels(deep[:1000]), ("a",) * 1000)
        self.assertEqual(max(depths(deep)), 1000)
        self.assertEqual(self.assertWithin(2, check_ending, 1000, deep[1000:]), deep[1000:])
        self.assertIs(is_ending(2000, closing(2000)), True)


if __name__ == "__main__":
    unittest.main()

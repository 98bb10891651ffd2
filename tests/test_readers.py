"""[47], [48]: readers, which are not told the depth."""

import itertools
import unittest

from stillopen.alike import least_apart
from stillopen.documents import document_of, signs_of
from stillopen.errors import BadStream, Refused, TooGreat
from stillopen.leastmachines import least_machine
from stillopen.leaststacks import kind, least, least_stacks
from stillopen.machines import answer, check_machine
from stillopen.readers import check_reader, is_right, machine_of, reader_apart, reader_kinds, reader_word
from given import (
    ANY_VALUES, HAS, ONE, Case, as_lists, documents_of, great_machine, ordered_machine, plain_signs, seeded, signs_for,
    some_document, some_machine, some_reader, step_plainly,
)

READER = (("a",), (), 2, 0, ((1, 1), (0, 1)), ((0, 1),), (0, 1), ((False,), (True,)))
SMALL = ((), (), 1, 0, ((0,),), ((0,),), (0,), ((True,),))


def with_part(at, value, reader=READER):
    """The reader with another value at a place."""
    return reader[:at] + (value,) + reader[at + 1:]


def read_by(reader, state, sign):
    """The state of a reader behind a sign."""
    if sign == ("close",):
        return reader[6][state]
    names, maps = (reader[0], reader[4]) if sign[0] == "open" else (reader[1], reader[5])
    return maps[names.index(sign[1]) if sign[1] in names else len(names)][state]


def word_plainly(reader, stream):
    """The answer of a reader to a stream."""
    state = reader[3]
    for sign in stream:
        state = read_by(reader, state, sign)
    return reader[7][state]


def pairs_plainly(machine, reader, depth, extra):
    """All (state, stack) of prefixes of a depth that are nowhere deeper by more than so many levels."""
    signs = sorted(set(signs_for(machine)) | {("open", label) for label in reader[0]} | {("text", t) for t in reader[1]})
    first = (reader[3], (machine[2][1],))
    todo, seen = [first], {first}
    while todo:
        state, stack = todo.pop()
        for sign in signs:
            if sign == ("close",) and len(stack) == 1 or sign[0] == "open" and len(stack) > depth + extra:
                continue
            news = (read_by(reader, state, sign), step_plainly(machine, stack, sign))
            if news not in seen:
                seen.add(news)
                todo.append(news)
    return {pair for pair in seen if len(pair[1]) == depth + 1}


def some_readers(many, seed, states=3, words=2):
    chance = seeded(seed)
    for _ in range(many):
        labels, texts = chance.choice(((), ("a",), ("a", "b"), ("c",))), chance.choice(((), ("t",), ("t", "u")))
        yield some_reader(chance, labels, texts, chance.randint(1, states), chance.randint(1, words))


class Readers(Case):
    def test_check(self):
        for reader in (READER, SMALL) + tuple(some_readers(30, 301)):
            self.assertEqual(check_reader(reader), reader)
            self.assertEqual(check_reader(as_lists(reader)), reader)
            self.assertTuples(check_reader(as_lists(reader)))
        wrong = [
            READER[:7], READER + ((),), with_part(0, ("A",)), with_part(0, ("b", "a")), with_part(0, "a"),
            with_part(1, (5,)), with_part(1, tuple("abcde")), with_part(2, 0), with_part(2, 4), with_part(2, True),
            with_part(2, 3), with_part(3, 2), with_part(3, -1), with_part(3, False), with_part(4, ((1, 1),)),
            with_part(4, ((1, 1), (0, 2))), with_part(4, ((1, 1), (0,))), with_part(4, ((1, 1), (0, True))),
            with_part(4, READER[4] + ((0, 0),)), with_part(5, ()), with_part(5, ((0, 1), (0, 1))), with_part(5, ((0, -1),)),
            with_part(6, ((0, 1),)), with_part(6, (0, 2)), with_part(6, (0,)), with_part(6, None),
            with_part(7, ((False,),)), with_part(7, ((False,), (True, True))), with_part(7, ((), ())),
            with_part(7, ((0,), (1,))), with_part(7, ((True,) * 9,) * 2), with_part(7, None), HAS, None,
        ]
        for value in wrong:
            self.assertFails(Refused, value, check_reader, value)
            self.assertFails(Refused, value, reader_word, value, None)
            self.assertFails(Refused, value, machine_of, value)
            self.assertFails(Refused, value, reader_apart, HAS, value)
            self.assertFails(Refused, value, is_right, HAS, value)
            self.assertFails(Refused, value, reader_kinds, HAS, value, None, most=1)
        four = ((), (), 4, 0, ((0, 1, 2, 3),), ((0, 1, 2, 3),), (0, 1, 2, 3), ((True,),) * 4)
        self.assertFails(Refused, four, check_reader, four)
        great = (tuple("abcdef"), ("", "a", "b", "c"), 3, 2, ((0, 1, 2),) * 7, ((2, 1, 0),) * 5, (1, 1, 1), ((True,) * 8,) * 3)
        self.assertEqual(check_reader(great), great)

    def test_words(self):
        chance = seeded(302)
        for reader in some_readers(60, 303):
            machine = machine_of(reader)
            self.assertEqual(check_machine(machine), machine)
            self.assertEqual(machine[:2], reader[:2])
            documents = [document for many in range(5) for document in documents_of(many)]
            documents += [some_document(chance, 30, 6) for _ in range(20)]
            for document in documents:
                wanted = word_plainly(reader, plain_signs(document))
                self.assertEqual(answer(machine, document), wanted)
                self.assertEqual(reader_word(reader, as_lists(plain_signs(document))), wanted)

    def test_wrong_streams(self):
        for at, stream in ((-1, None), (0, (("close",),)), (1, (("text", "a"), 3)), (1, (("open", "a"),))):
            self.assertFails(BadStream, at, reader_word, READER, stream)
        self.assertEqual(reader_word(READER, ()), (False,))
        self.assertEqual(reader_word(SMALL, [["open", "a"], ["close"]]), (True,))

    def test_any_values(self):
        self.assertMachineFirst(lambda value: reader_apart(value, None))
        self.assertMachineFirst(lambda value: is_right(value, None))
        self.assertMachineFirst(lambda value: reader_kinds(value, None, None, most=1))
        for value in ANY_VALUES:
            self.assertOnly((Refused,), check_reader, value)
            self.assertOnly((Refused,), machine_of, value)
            self.assertOnly((Refused,), reader_apart, HAS, value)
            self.assertOnly((Refused, BadStream), reader_word, value, value)
            self.assertOnly((BadStream,), reader_word, SMALL, value)
            if not isinstance(value, int) or value < 9:
                self.assertOnly((Refused,), reader_kinds, ONE, SMALL, value, most=9)


class Right(Case):
    def test_told(self):
        self.assertTrue(is_right(HAS, READER))
        self.assertIsNone(reader_apart(HAS, READER))
        self.assertEqual(reader_apart(HAS, with_part(6, (0, 0))), (("element", "a", ()),))
        # Wrong at one step, or by one answer.
        self.assertEqual(reader_apart(HAS, with_part(3, 1)), ())
        self.assertEqual(reader_apart(HAS, with_part(7, ((True,), (True,)))), ())
        self.assertEqual(reader_apart(HAS, with_part(4, ((1, 1), (0, 0))))[0][0], "element")
        self.assertIsNone(reader_apart(ONE, SMALL))
        self.assertFalse(is_right(ONE, with_part(7, ((False,),), SMALL)))

    def test_fewest_signs(self):
        chance = seeded(304)
        found = 0
        for reader in some_readers(120, 305, 2):
            words = len(reader[7][0])
            machine = some_machine(chance, chance.choice(((), ("a",))), chance.choice(((), ("t",))), chance.randint(1, 2),
                                   chance.randint(1, 2), words)
            told = reader_apart(machine, reader)
            self.assertEqual(is_right(machine, reader), told is None)
            if told is not None:
                found += 1
                self.assertNotEqual(answer(machine, told), word_plainly(reader, plain_signs(told)))
            few = 5 if told is None else min(len(plain_signs(told)), 6)
            for many in range(few):
                for document in documents_of(many, ("a", "c"), ("t", "u")):
                    self.assertEqual(answer(machine, document), word_plainly(reader, plain_signs(document)))
        self.assertGreater(found, 60)

    def test_right_and_nearly_right(self):
        chance = seeded(306)
        for reader in some_readers(60, 307):
            machine = least_machine(machine_of(reader))
            self.assertTrue(is_right(machine, reader))
            at = chance.choice((4, 5, 7))
            rows = [list(row) for row in reader[at]]
            row = chance.choice(rows)
            place = chance.randrange(len(row))
            row[place] = not row[place] if at == 7 else chance.randrange(reader[2])
            bent = with_part(at, tuple(tuple(one) for one in rows), reader)
            told = reader_apart(machine, bent)
            plainly = least_apart(machine, machine_of(bent))
            self.assertEqual(told is None, plainly is None)
            if told is not None:
                self.assertEqual(len(signs_of(told)), len(signs_of(plainly)))
                self.assertNotEqual(answer(machine, told), word_plainly(bent, plain_signs(told)))

    def test_refused(self):
        many = with_part(7, ((True, False), (False, True)))
        self.assertFails(Refused, many, reader_apart, HAS, many)
        self.assertFails(Refused, many, is_right, HAS, many)
        # Unlike lengths are no matter of kinds.
        self.assertEqual(reader_kinds(HAS, many, 0, most=9), reader_kinds(HAS, READER, 0, most=9))
        names = (tuple("bcdefg"), (), 1, 0, ((0,),) * 7, ((0,),), (0,), ((True,),))
        self.assertFails(Refused, tuple("abcdefg"), reader_apart, HAS, names)
        self.assertFails(Refused, tuple("abcdefg"), is_right, HAS, names)
        self.assertFails(Refused, tuple("abcdefg"), reader_kinds, HAS, names, 0, most=1)
        self.assertFails(Refused, -1, reader_kinds, HAS, names, -1, most=1)
        texts = ((), tuple("tuvw"), 1, 0, ((0,),), ((0,),) * 5, (0,), ((True,),))
        machine = some_machine(seeded(1), (), ("x",))
        self.assertFails(Refused, tuple("tuvwx"), reader_apart, machine, texts)
        both = (tuple("bcdefg"), tuple("tuvw"), 1, 0, ((0,),) * 7, ((0,),) * 5, (0,), ((True,),))
        self.assertFails(Refused, tuple("abcdefg"), reader_apart, some_machine(seeded(1), ("a",), ("x",)), both)
        # Many words together are no matter of readers.
        words = some_machine(seeded(2), words=8)
        self.assertIsNotNone(reader_apart(words, some_reader(seeded(3), words=8)))
        for depth in (-1, True, None, "1", (1,)):
            self.assertFails(Refused, depth, reader_kinds, HAS, READER, depth, most=9)


class Kinds(Case):
    def test_told(self):
        self.assertEqual(reader_kinds(HAS, READER, 1, most=9), ((0, (0, 0)), (1, (0, 1))))
        self.assertEqual(reader_kinds(HAS, READER, 0, most=9), ((0, (0,)), (1, (1,))))
        self.assertEqual(reader_kinds(ONE, SMALL, 3, most=1), ((0, (0, 0, 0, 0)),))

    def test_all_prefixes(self):
        chance = seeded(308)
        for reader in some_readers(60, 309, 2):
            make = chance.choice((some_machine, ordered_machine))
            machine = make(chance, chance.choice(((), ("a",))), chance.choice(((), ("t",))), chance.randint(1, 2),
                           chance.randint(1, 2))
            for depth in range(3):
                wanted = sorted({(state, least(machine, stack))
                                 for state, stack in pairs_plainly(machine, reader, depth, 8)})
                told = reader_kinds(machine, reader, depth, most=2000)
                self.assertEqual(told, tuple(wanted))
                self.assertTuples(told)
                self.assertEqual(reader_kinds(as_lists(machine), as_lists(reader), depth, most=2000), told)

    def test_right_readers(self):
        chance = seeded(310)
        for reader in some_readers(80, 311):
            machine = least_machine(machine_of(reader))
            if machine[3][0] > 4 or machine[2][0] > 4:
                continue
            for depth in range(5):
                pairs = reader_kinds(machine, reader, depth, most=2000)
                states = [state for state, _ in pairs]
                self.assertEqual(len(states), len(set(states)))
                self.assertEqual(sorted({stack for _, stack in pairs}), list(least_stacks(machine, depth, most=2000)))
            state, prefix = reader[3], ()
            for _ in range(12):
                level = len(kind(machine, prefix)) - 1
                if level < 5:
                    self.assertIn((state, kind(machine, prefix)), reader_kinds(machine, reader, level, most=2000))
                sign = chance.choice(signs_for(machine, level > 0))
                state, prefix = read_by(reader, state, sign), prefix + (sign,)

    def test_most(self):
        chance = seeded(312)
        raised = 0
        for reader in some_readers(40, 313):
            machine = ordered_machine(chance, inner=3, top=3)
            rows = [reader_kinds(machine, reader, depth, most=2000) for depth in range(4)]
            need = max(len(row) for row in rows)
            self.assertEqual(reader_kinds(machine, reader, 3, most=need), rows[3])
            for most in range(1, need):
                told = self.assertOnly((TooGreat,), reader_kinds, machine, reader, 3, most=most)
                if isinstance(told, TooGreat):
                    self.assertEqual(told.most, most)
                    raised += 1
                else:
                    self.assertEqual(told, rows[3])
        self.assertGreater(raised, 0)
        with self.assertRaises(TypeError):
            reader_kinds(HAS, READER, 1, 9)

    def test_great(self):
        chance = seeded(314)
        for make in (some_machine, ordered_machine) * 6:
            machine = make(chance, tuple("abcdef"), ("t", "u", "v", "w"), 4, 4, 4)
            reader = some_reader(chance, tuple("abcdef"), ("t", "u", "v", "w"), 3, 4)
            self.assertOnly((TooGreat,), self.assertWithin, 5, reader_kinds, machine, reader, 6, most=2000)
            self.assertWithin(5, reader_apart, machine, reader)
            same = with_part(7, (answer(machine, ()),) * 3, reader)
            told = self.assertWithin(5, reader_apart, machine, same)
            self.assertNotEqual(told, ())
        machine = great_machine(4)
        stream = (("open", "a"), ("text", "t")) * 100 + (("close",), ("text", "u")) * 100
        for reader in itertools.islice(some_readers(20, 315), 10):
            self.assertEqual(reader_word(reader, stream), word_plainly(reader, stream))
            self.assertEqual(answer(machine_of(reader), document_of(stream)), word_plainly(reader, stream))
            if len(reader[7][0]) == 1:
                self.assertWithin(5, reader_apart, machine, reader)


if __name__ == "__main__":
    unittest.main()

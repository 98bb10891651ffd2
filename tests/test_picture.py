"""[66], [68], [69]: a question's machine, a picture of what is behind a prefix, what memory costs; the main sentence."""

import unittest

from stillopen.compiled import compiled_all
from stillopen.counts import count_matrix, counts_to, stack_machine
from stillopen.documents import document_of
from stillopen.errors import BadMachine, BadQuestion, BadStream, NoFact, Refused, TooGreat
from stillopen.facts import meanings
from stillopen.growth import bits, growth, most_kinds
from stillopen.keeper import Keeper
from stillopen.ladders import keeper_ladder, ladder_apart
from stillopen.leastmachines import is_least, least_machine
from stillopen.leaststacks import kind, least_stacks
from stillopen.likeness import parting
from stillopen.machines import answer
from stillopen.paths import question_of, read_path
from stillopen.picture import machine_for, memory, picture
from stillopen.pieces import act, piece_of
from stillopen.reasons import endings
from stillopen.stacks import answer_by, first_stack, stack_of
from stillopen.sure import sure, sure_answers
from given import (
    ANY_VALUES, HAS, ONE, QUESTION, Case, as_lists, documents_of, ordered_machine, seeded, signs_for, some_document, some_machine,
    some_prefix, some_questions,
)

class QuestionsMachine(Case):
    def test_told(self):
        machine = machine_for(QUESTION, (3,))
        self.assertEqual((machine[:2], machine[2][0], machine[3][0]), ((("a",), ("x",)), 2, 3))
        self.assertEqual(machine_for(as_lists(QUESTION), [3]), machine)
        self.assertTuples(machine_for(as_lists(QUESTION), [3]))

    def test_all_questions(self):
        chance = seeded(441)
        for question, asked, machine in some_questions(60, 442):
            self.assertEqual(machine, least_machine(compiled_all(question, asked)))
            self.assertTrue(is_least(machine))
            for document in documents_of(3) + [some_document(chance) for _ in range(20)]:
                self.assertEqual(answer(machine, document), meanings(question, asked, document))

    def test_wrong(self):
        for at, value in ((-1, None), (-1, ()), (0, ((),)), (1, (("label", "a"), ("not", 1)))):
            self.assertFails(BadQuestion, at, machine_for, value, None)
        for asked in (None, (), "0", 3, (0,) * 9):
            self.assertFails(Refused, asked, machine_for, QUESTION, asked)
        for value in (4, -1, True, None, "0"):
            self.assertFails(NoFact, value, machine_for, QUESTION, (0, value))
        labels = tuple(("label", label) for label in "abcdefg")
        self.assertFails(Refused, labels, machine_for, labels, tuple(range(7)))
        great = tuple(("text", text, 3) for text in "tuvw") + (("and", 0, 1), ("and", 2, 3), ("or", 4, 5))
        self.assertFails(TooGreat, 200, machine_for, great, (6,))
        for value in ANY_VALUES:
            self.assertOnly((BadQuestion, Refused, NoFact), machine_for, value, value)
            self.assertOnly((Refused, NoFact), machine_for, QUESTION, value)

    def test_great(self):
        # A machine of 60 and 60 states, the least one of which has fewer.
        question = (("text", "t", 3), ("text", "u", 2), ("text", "v", 3), ("text", "w", 1), ("or", 0, 1), ("or", 2, 3),
                    ("and", 4, 5))
        machine = self.assertWithin(5, machine_for, question, (6,))
        self.assertLessEqual(machine[2][0], 60)


class Pictures(Case):
    def test_told(self):
        machine = machine_for(QUESTION, (3,))
        told = picture(machine, (("open", "b"), ("open", "a")))
        self.assertEqual(told[:3], (2, (0, 1, 0), "open"))
        self.assertEqual([(word, len(ending)) for word, ending in told[3:]], [((False,), 2), ((True,), 3)])
        self.assertEqual(picture(HAS, [["open", "a"]]), (1, (0, 1), "sure", (True,)))
        self.assertEqual(picture(ONE, ()), (0, (0,), "sure", (True,)))
        self.assertEqual(picture(HAS, ())[:4], (0, (0,), "open", ((False,), ())))

    def test_all_prefixes(self):
        chance = seeded(443)
        kinds = set()
        for _ in range(150):
            machine = chance.choice((some_machine, ordered_machine))(chance, ("a",), ("t",), 3, 3, chance.randint(1, 2))
            prefix = some_prefix(chance, chance.randint(0, 8), ("a", "b"), ("t", "u"))
            told = picture(machine, prefix)
            self.assertTuples(told)
            self.assertEqual(picture(as_lists(machine), as_lists(prefix)), told)
            stack = stack_of(machine, prefix)
            self.assertEqual(told[:2], (len(stack) - 1, kind(machine, prefix)))
            kinds.add(told[2])
            if told[2] == "sure":
                self.assertEqual(told[3:], (sure(machine, stack),))
                continue
            self.assertIsNone(sure(machine, stack))
            wanted = endings(machine, stack)
            self.assertEqual([(word, len(signs)) for word, signs in told[3:]], [(word, len(signs)) for word, signs in wanted])
            for word, signs in told[3:]:
                self.assertEqual(answer_by(machine, stack, signs), word)
        self.assertEqual(kinds, {"sure", "open"})

    def test_wrong(self):
        self.assertMachineFirst(lambda value: picture(value, None))
        self.assertMachineFirst(lambda value: memory(value, None, most=1))
        for at, prefix in ((-1, None), (0, (("close",),)), (1, (("open", "a"), ("open", "A")))):
            self.assertFails(BadStream, at, picture, HAS, prefix)
        for depth in (-1, True, None, "1", (1,)):
            self.assertFails(Refused, depth, memory, HAS, depth, most=1)
        for value in ANY_VALUES:
            self.assertOnly((BadStream,), picture, HAS, value)
            self.assertOnly((BadMachine,), picture, value, ())
            if not isinstance(value, int) or value < 9:
                self.assertOnly((Refused,), memory, ONE, value, most=9)
        with self.assertRaises(TypeError):
            memory(HAS, 1, 9)


class Memory(Case):
    def test_told(self):
        machine = machine_for(QUESTION, (3,))
        self.assertEqual(memory(machine, 3, most=5000), ((2, 3, 5, 9), (1, 1, 1, 1), ("depth",), "depth"))
        self.assertEqual(memory(HAS, 2, most=99), ((2, 2, 2), (1, 1, 1), ("bounded", 2), "bounded"))

    def test_all_machines(self):
        chance = seeded(444)
        for _ in range(60):
            machine = chance.choice((some_machine, ordered_machine))(chance, ("a",), ("t",), 3, 3, chance.randint(1, 2))
            told = memory(machine, 4, most=2000)
            self.assertTuples(told)
            self.assertEqual(memory(as_lists(machine), 4, most=2000), told)
            kinds, sures, grown, in_bits = told
            self.assertEqual(kinds, counts_to(machine, 4, most=2000))
            for depth in range(3):
                stacks = least_stacks(machine, depth, most=2000)
                self.assertEqual(kinds[depth], len(stacks))
                self.assertEqual(sures[depth], len([stack for stack in stacks if sure(machine, stack) is not None]))
            self.assertEqual(sures, tuple(len(sure_answers(machine, depth)) for depth in range(5)))
            words = stack_machine(machine, most=2000)
            self.assertEqual((grown, in_bits), (growth(words), bits(words)))
            for most in (1, 3):
                again = self.assertOnly((TooGreat,), memory, machine, 4, most=most)
                self.assertIn(again.most if isinstance(again, TooGreat) else again, (most, told))

    def test_great(self):
        chance = seeded(445)
        for inner, top in ((2, 6), (3, 3)) * 4:
            machine = chance.choice((some_machine, ordered_machine))(chance, ("a", "b"), ("t", "u"), inner, top, 2)
            self.assertOnly((TooGreat,), self.assertWithin, 30, memory, machine, 20, most=5000)


class MainSentence(Case):
    def test_all_questions(self):
        chance = seeded(446)
        grown = set()
        paths = [question_of(read_path(path)) for path in ("/a", "//a//b", "//a/b", "//a/#", "(/a or //b)", "/a[/b$]")]
        fixed = [(question, (len(question) - 1,)) for question in paths]
        fixed = [(question, asked, machine_for(question, asked)) for question, asked in fixed]
        for question, asked, machine in fixed + list(some_questions(12, 447, 4, 4)):
            told = memory(machine, 4, most=2000)
            kinds = told[0]
            grown.add(told[3])
            ladder = keeper_ladder(machine, 3, most=2000)
            self.assertIsNone(ladder_apart(machine, ladder))
            self.assertEqual(tuple(level[0] for level in ladder[3]), kinds[:4])
            for depth in range(3):
                stacks = least_stacks(machine, depth, most=2000)
                # Any right reader must tell all of them apart: some ending parts each two of them.
                self.assertEqual(len(stacks), kinds[depth])
                for one in stacks:
                    for other in stacks:
                        self.assertEqual(parting(machine, one, other) is None, one == other)
            matrix, ends = count_matrix(machine, most=2000)
            row = [1] + [0] * (len(matrix) - 1)
            for depth in range(5):
                self.assertEqual(sum(many * end for many, end in zip(row, ends)), kinds[depth])
                row = [sum(many * matrix[at][to] for at, many in enumerate(row)) for to in range(len(row))]
            self.check_streams(chance, question, asked, machine, kinds)
            self.check_growth(stack_machine(machine, most=2000), told)
        self.assertEqual(grown, {"bounded", "logarithm", "depth"})

    def check_streams(self, chance, question, asked, machine, kinds):
        """By what the keeper has the answer is told as soon as all endings agree, and no sooner."""
        by_depth = {}
        for _ in range(6):
            keeper = Keeper(machine)
            prefix = ()
            for _ in range(10):
                sign = chance.choice(signs_for(machine, keeper.depth() > 0))
                prefix += (sign,)
                stack = keeper.read(sign)
                self.assertEqual(stack, kind(machine, prefix))
                self.assertEqual(stack, kind(machine, self.cut(chance, machine, prefix)))
                by_depth.setdefault(keeper.depth(), set()).add(stack)
                told = picture(machine, prefix)
                whole = {}
                for ending in self.some_endings(chance, keeper.depth()):
                    word = meanings(question, asked, document_of(prefix + ending))
                    whole[word] = True
                if told[2] == "sure":
                    self.assertEqual(list(whole), [told[3]])
                else:
                    self.assertLessEqual(set(whole), {word for word, _ in told[3:]})
                    for word, ending in told[3:]:
                        self.assertEqual(meanings(question, asked, document_of(prefix + ending)), word)
        for depth, stacks in by_depth.items():
            if depth < 5:
                self.assertLessEqual(len(stacks), kinds[depth])

    def cut(self, chance, machine, prefix):
        """The same prefix, read in two pieces: a row of signs, of which the kind is asked."""
        at = chance.randint(0, len(prefix))
        stack = act(machine, first_stack(machine), piece_of(machine, prefix[:at]))
        self.assertEqual(act(machine, stack, piece_of(machine, prefix[at:])), stack_of(machine, prefix))
        return prefix[:at] + prefix[at:]

    def some_endings(self, chance, depth):
        for _ in range(6):
            ending = ()
            for level in range(depth + 1):
                row = some_prefix(chance, chance.choice((0, 0, 2, 4)), ("a", "b"), ("t", "u"))
                opened = sum({"open": 1, "close": -1}.get(sign[0], 0) for sign in row)
                ending += row + (("close",),) * (opened + (level < depth))
            yield ending

    def check_growth(self, words, told):
        """Bounded, or with the logarithm of the depth, or with the depth, and nothing between."""
        self.assertEqual((growth(words), bits(words)), told[2:])
        kinds = [most_kinds(words, depth) for depth in (10, 20, 40)]
        if told[3] == "bounded":
            self.assertEqual(max(kinds), told[2][1])
        elif told[3] == "logarithm":
            self.assertTrue(kinds[0] < kinds[1] < kinds[2] <= 100 * 40 ** told[2][1])
        else:
            self.assertGreater(kinds[2], kinds[1] * kinds[0])


if __name__ == "__main__":
    unittest.main()

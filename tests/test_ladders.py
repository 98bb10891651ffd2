"""[49]: ladders, readers that are told the depth; the keeper as one of them."""

import unittest

from stillopen.errors import BadStream, Refused, TooGreat
from stillopen.ladders import check_ladder, full_depth, keeper_ladder, ladder_apart, ladder_kinds, ladder_word
from stillopen.leaststacks import kind, least, least_stacks
from stillopen.lots import inner_reached, results
from stillopen.machines import answer
from given import (
    ANY_VALUES, HAS, ONE, Case, as_lists, ordered_machine, plain_signs, seeded, signs_for, some_ladder,
    some_machine, some_prefix, step_plainly,
)

LADDER = (("a",), (), 0, ((1, ((0,),), ((0,), (1,)), ()), (2, ((0, 1),), (), (0, 0))), ((True,),))
FLAT = ((), (), 0, ((1, ((0,),), (), ()),), ((True,),))
OPEN, CLOSE, TEXT = ("open", "a"), ("close",), ("text", "t")


def with_part(at, value, ladder=LADDER):
    """The ladder with another value at a place."""
    return ladder[:at] + (value,) + ladder[at + 1:]


def with_level(depth, at, value, ladder=LADDER):
    """The ladder with another value at a place of a level."""
    level = ladder[3][depth]
    return with_part(3, ladder[3][:depth] + (level[:at] + (value,) + level[at + 1:],) + ladder[3][depth + 1:], ladder)


def read_by(ladder, depth, state, sign):
    """The state of a ladder behind a sign at a depth."""
    _, strings, opens, close = ladder[3][depth]
    if sign == CLOSE:
        return close[state]
    names, maps = (ladder[0], opens) if sign[0] == "open" else (ladder[1], strings)
    return maps[names.index(sign[1]) if sign[1] in names else len(names)][state]


def all_pairs(machine, ladder):
    """By (state, stack) of prefixes that a ladder reads how many signs the shortest such has."""
    signs = set(signs_for(machine)) | {("open", label) for label in ladder[0]} | {("text", text) for text in ladder[1]}
    first = (ladder[2], (machine[2][1],))
    told, row, many = {first: 0}, [first], 0
    while row:
        many, news = many + 1, []
        for state, stack in row:
            depth = len(stack) - 1
            for sign in signs:
                if sign == CLOSE and depth == 0 or sign[0] == "open" and depth + 1 == len(ladder[3]):
                    continue
                pair = (read_by(ladder, depth, state, sign), step_plainly(machine, stack, sign))
                if pair not in told:
                    told[pair] = many
                    news.append(pair)
        row = news
    return told


def some_pairs(many, seed, inner=3, top=3, levels=3, states=3):
    """Machines and ladders beside them, with answers of one length."""
    chance = seeded(seed)
    for _ in range(many):
        words = chance.randint(1, 2)
        names = ((), ("a",), ("a", "b"), ("c",)), ((), ("t",), ("t", "u"))
        make = chance.choice((some_machine, ordered_machine))
        machine = make(chance, chance.choice(names[0]), chance.choice(names[1]), chance.randint(1, inner),
                       chance.randint(1, top), words)
        manys = tuple(chance.randint(1, states) for _ in range(chance.randint(1, levels)))
        yield machine, some_ladder(chance, chance.choice(names[0]), chance.choice(names[1]), manys, words)


def doubled(chance, ladder):
    """A ladder that does the same with two states for each, led to either by chance."""
    levels = []
    for many, strings, opens, close in ladder[3]:
        def twice(row):
            return tuple(2 * led + chance.randrange(2) for led in row for _ in range(2))
        levels.append((2 * many, tuple(map(twice, strings)), tuple(map(twice, opens)), twice(close)))
    answers = tuple(one for one in ladder[4] for _ in range(2))
    return ladder[0], ladder[1], 2 * ladder[2] + 1, tuple(levels), answers


class Ladders(Case):
    def test_check(self):
        for ladder in [LADDER, FLAT] + [ladder for _, ladder in some_pairs(30, 321)]:
            self.assertEqual(check_ladder(ladder), ladder)
            self.assertEqual(check_ladder(as_lists(ladder)), ladder)
            self.assertTuples(check_ladder(as_lists(ladder)))
        wrong = [
            LADDER[:4], LADDER + ((),), with_part(0, ("A",)), with_part(1, ("b", "a")), with_part(2, 1), with_part(2, -1),
            with_part(2, False), with_part(3, ()), with_part(3, None), with_part(3, (LADDER[3][0],)),
            with_part(3, (LADDER[3][1],)), with_part(3, LADDER[3] + (None,)), with_part(4, ()), with_part(4, ((True,),) * 2),
            with_part(4, ((),)), with_part(4, ((1,),)), with_part(4, ((True,) * 9,)), with_level(0, 0, 0),
            with_level(0, 0, True), with_level(0, 0, 2), with_level(1, 0, 3), with_level(0, 1, ()), with_level(0, 1, ((1,),)),
            with_level(0, 1, ((0, 0),)), with_level(0, 2, ()), with_level(0, 2, ((0,),)), with_level(0, 2, ((0,), (2,))),
            with_level(0, 2, ((0,), (True,))), with_level(0, 2, ((0,), (0, 0))), with_level(0, 3, (0,)),
            with_level(0, 3, None), with_level(1, 1, ((0, 2),)), with_level(1, 2, ((0, 0), (0, 0))), with_level(1, 2, None),
            with_level(1, 3, ()), with_level(1, 3, (0,)), with_level(1, 3, (0, 1)), with_level(1, 3, (0, -1)), HAS, None,
        ]
        for value in wrong:
            self.assertFails(Refused, value, check_ladder, value)
            self.assertFails(Refused, value, ladder_word, value, None)
            self.assertFails(Refused, value, ladder_apart, HAS, value)
            self.assertFails(Refused, value, ladder_kinds, HAS, value, most=1)
        self.assertEqual(check_ladder(with_level(1, 2, [])), LADDER)

    def test_words(self):
        chance = seeded(322)
        for _, ladder in some_pairs(60, 323):
            for _ in range(20):
                prefix = some_prefix(chance, chance.randint(0, 12), ("a", "b", "c"), ("t", "u"))
                level = 0
                for sign in prefix:
                    level += {"open": 1, "close": -1}.get(sign[0], 0)
                stream = prefix + (CLOSE,) * level
                state, depth, deepest = ladder[2], 0, 0
                for sign in stream:
                    if deepest < len(ladder[3]) and not (sign[0] == "open" and depth + 1 == len(ladder[3])):
                        state = read_by(ladder, depth, state, sign)
                    depth += {"open": 1, "close": -1}.get(sign[0], 0)
                    deepest = max(deepest, depth)
                if deepest < len(ladder[3]):
                    self.assertEqual(ladder_word(ladder, as_lists(stream)), ladder[4][state])
                else:
                    self.assertFails(Refused, stream, ladder_word, ladder, stream)

    def test_wrong_streams(self):
        for at, stream in ((-1, None), (0, (CLOSE,)), (1, (TEXT, 3)), (1, (OPEN,)), (2, (OPEN, OPEN))):
            self.assertFails(BadStream, at, ladder_word, FLAT, stream)
        self.assertFails(Refused, [OPEN, CLOSE], ladder_word, FLAT, [OPEN, CLOSE])
        self.assertEqual(ladder_word(FLAT, [TEXT, TEXT]), (True,))
        self.assertEqual(ladder_word(LADDER, [OPEN, TEXT, CLOSE]), (True,))

    def test_any_values(self):
        self.assertMachineFirst(lambda value: ladder_apart(value, None))
        self.assertMachineFirst(lambda value: ladder_kinds(value, None, most=1))
        self.assertMachineFirst(lambda value: keeper_ladder(value, None, most=1))
        self.assertMachineFirst(full_depth)
        for value in ANY_VALUES:
            self.assertOnly((Refused,), check_ladder, value)
            self.assertOnly((Refused,), ladder_apart, HAS, value)
            self.assertOnly((Refused,), ladder_kinds, HAS, value, most=9)
            self.assertOnly((Refused, BadStream), ladder_word, value, value)
            self.assertOnly((Refused, BadStream), ladder_word, FLAT, value)
            if not isinstance(value, int) or value < 9:
                self.assertOnly((Refused,), keeper_ladder, ONE, value, most=9)


class Right(Case):
    def test_told(self):
        self.assertEqual(ladder_apart(HAS, LADDER), ())
        self.assertIsNone(ladder_apart(ONE, FLAT))
        self.assertEqual(ladder_apart(ONE, with_part(4, ((False,),), FLAT)), ())
        # What it does not read it is not asked of.
        self.assertIsNone(ladder_apart(HAS, with_part(4, ((False,),), FLAT)))
        self.assertEqual(ladder_apart(HAS, with_part(4, ((False,),))), (("element", "a", ()),))

    def test_fewest_signs(self):
        found = 0
        for machine, ladder in some_pairs(200, 324):
            wanted = [many for (state, stack), many in all_pairs(machine, ladder).items()
                      if len(stack) == 1 and machine[2][4][stack[0]] != ladder[4][state]]
            told = ladder_apart(machine, ladder)
            if told is None:
                self.assertEqual(wanted, [])
                continue
            found += 1
            self.assertEqual(len(plain_signs(told)), min(wanted))
            self.assertNotEqual(answer(machine, told), ladder_word(ladder, plain_signs(told)))
            self.assertTuples(told)
        self.assertTrue(60 < found < 199)

    def test_few_texts_or_few_elements(self):
        # The answer turns behind so many texts, or so many elements in which so many nodes stand.
        for texts in range(1, 7):
            for elements in range(1, 4):
                for within in range(3):
                    for is_deep in (False, True):
                        self.check_counting(texts, elements, within, is_deep)

    def check_counting(self, texts, elements, within, is_deep):
        """Of a machine that counts both, and a ladder that never says yes; elements are those of other labels than a."""
        many = texts + elements
        by_text = tuple(min(state + 1, texts) if state < texts else state for state in range(texts + 1))
        top_text = by_text + tuple(range(texts + 1, many))
        ends = [0] + list(range(texts + 1, many)) + [texts]
        top_child = tuple(ends[ends.index(state) + 1] if state in ends[:-1] else state for state in range(many))
        same = tuple(range(many))
        # Inner rows count texts, or elements that are counted themselves, up to so many; in an a nothing is counted.
        count = tuple(min(state + 1, within) for state in range(within + 1)) + (within + 1,)
        rest = tuple(range(within + 2))
        children = [rest] * (within + 2)
        if is_deep:
            children[0] = count
        inner_text = rest if is_deep else count
        tops = (many, 0, (top_text,), tuple(top_child if state == within else same for state in range(within + 2)),
                tuple((state == texts,) for state in range(many)))
        machine = (("a",), (), tops, (within + 2, (within + 1, 0), (inner_text,), tuple(children)))
        silent = (("a",), (), 0, tuple((1, ((0,),), ((0,), (0,)) if level < 3 else (), (0,) if level > 0 else ())
                                       for level in range(4)), ((False,),))
        node = 2 if is_deep else 1
        told = ladder_apart(machine, silent)
        self.assertTrue(answer(machine, told)[0])
        self.assertEqual(len(plain_signs(told)), min(texts, elements * (2 + node * within)))

    def test_refused(self):
        many = with_part(4, ((True, True),))
        self.assertFails(Refused, many, ladder_apart, HAS, many)
        self.assertEqual(ladder_kinds(HAS, many, most=9), ladder_kinds(HAS, LADDER, most=9))
        names = (tuple("bcdefg"), (), 0, ((1, ((0,),), (), ()),), ((True,),))
        self.assertFails(Refused, tuple("abcdefg"), ladder_apart, HAS, names)
        self.assertFails(Refused, tuple("abcdefg"), ladder_kinds, HAS, names, most=1)
        texts = (("a",), tuple("tuvw"), 0, ((1, ((0,),) * 5, (), ()),), ((True,),))
        self.assertFails(Refused, tuple("tuvwx"), ladder_apart, some_machine(seeded(1), ("b",), ("x",)), texts)
        for depth in (-1, True, None, "1", (1,)):
            self.assertFails(Refused, depth, keeper_ladder, HAS, depth, most=9)
        words = some_machine(seeded(2), words=8)
        self.assertIsNone(ladder_apart(words, keeper_ladder(words, 2, most=99)))


class Kinds(Case):
    def test_told(self):
        self.assertEqual(ladder_kinds(HAS, LADDER, most=9)[0], ((0, (0,)), (0, (1,))))
        self.assertEqual(ladder_kinds(ONE, FLAT, most=1), (((0, (0,)),),))

    def test_all_prefixes(self):
        for machine, ladder in some_pairs(120, 325):
            wanted = [set() for _ in ladder[3]]
            for state, stack in all_pairs(machine, ladder):
                wanted[len(stack) - 1].add((state, least(machine, stack)))
            told = ladder_kinds(machine, ladder, most=2000)
            self.assertEqual(told, tuple(tuple(sorted(row)) for row in wanted))
            self.assertTuples(told)
            self.assertEqual(ladder_kinds(as_lists(machine), as_lists(ladder), most=2000), told)
            need = max(len(row) for row in told)
            self.assertEqual(ladder_kinds(machine, ladder, most=need), told)
            for most in range(1, need):
                again = self.assertOnly((TooGreat,), ladder_kinds, machine, ladder, most=most)
                self.assertEqual(again.most if isinstance(again, TooGreat) else again,
                                 most if isinstance(again, TooGreat) else told)


class Keepers(Case):
    def test_told(self):
        told = keeper_ladder(HAS, 1, most=9)
        self.assertEqual(told[3], ((2, ((0, 1),), ((1, 1), (0, 1)), ()), (2, ((0, 1),), (), (0, 1))))
        self.assertEqual((told[:3], told[4]), ((("a",), (), 0), ((False,), (True,))))
        self.assertEqual(keeper_ladder(HAS, 0, most=1)[3], ((2, ((0, 1),), (), ()),))
        self.assertEqual(keeper_ladder(ONE, 1, most=1)[3], ((1, ((0,),), ((0,),), ()), (1, ((0,),), (), (0,))))

    def test_states_are_least_stacks(self):
        chance = seeded(326)
        for machine, _ in some_pairs(60, 327):
            deep = chance.randint(0, 3)
            ladder = keeper_ladder(machine, deep, most=2000)
            self.assertEqual(check_ladder(ladder), ladder)
            self.assertEqual(keeper_ladder(as_lists(machine), deep, most=2000), ladder)
            self.assertTuples(ladder)
            stacks = [least_stacks(machine, depth, most=2000) for depth in range(deep + 1)]
            self.assertEqual([level[0] for level in ladder[3]], [len(row) for row in stacks])
            self.assertIsNone(ladder_apart(machine, ladder))
            full = full_depth(machine)
            for depth, row in enumerate(ladder_kinds(machine, ladder, most=2000)):
                all_told = tuple(enumerate(stacks[depth]))
                self.assertLessEqual(set(row), set(all_told))
                if depth + full <= deep:
                    self.assertEqual(row, all_told)
            for _ in range(10):
                state, prefix = ladder[2], ()
                for _ in range(8):
                    depth = len(kind(machine, prefix)) - 1
                    self.assertEqual(stacks[depth][state], kind(machine, prefix))
                    signs = [sign for sign in signs_for(machine, depth > 0) if sign[0] != "open" or depth < deep]
                    sign = chance.choice(signs)
                    state, prefix = read_by(ladder, depth, state, sign), prefix + (sign,)

    def test_right_ladders(self):
        chance = seeded(328)
        for machine, _ in some_pairs(60, 329, 2, 3):
            full = full_depth(machine)
            deep = full + chance.randint(0, 2)
            stacks = [least_stacks(machine, depth, most=2000) for depth in range(deep + 1)]
            if max(len(row) for row in stacks) > 20:
                continue
            ladder = doubled(chance, keeper_ladder(machine, deep, most=2000))
            self.assertIsNone(ladder_apart(machine, ladder))
            told = ladder_kinds(machine, ladder, most=2000)
            for depth in range(deep - full + 1):
                states = [state for state, _ in told[depth]]
                self.assertEqual(len(states), len(set(states)))
                self.assertEqual(sorted({stack for _, stack in told[depth]}), list(stacks[depth]))
            # Wrong by one answer, of a state that is come to.
            state = told[0][0][0]
            answers = list(ladder[4])
            answers[state] = tuple(not word for word in answers[state])
            self.assertIsNotNone(ladder_apart(machine, with_part(4, tuple(answers), ladder)))

    def test_most(self):
        for machine, _ in some_pairs(40, 330):
            many = len(inner_reached(machine))
            for deep in range(4):
                need = max([len(least_stacks(machine, depth, most=2000)) * many for depth in range(deep)], default=1)
                told = keeper_ladder(machine, deep, most=2000)
                self.assertEqual(keeper_ladder(machine, deep, most=need), told)
                for most in range(1, need):
                    again = self.assertOnly((TooGreat,), keeper_ladder, machine, deep, most=most)
                    if isinstance(again, TooGreat):
                        self.assertEqual(again.most, most)
                    else:
                        self.assertEqual(again, told)

    def test_full_depth(self):
        self.assertEqual((full_depth(HAS), full_depth(ONE)), (1, 1))
        # Each element within another one leads to a state more.
        deep = ((), (), (1, 0, ((0,),), ((0,),) * 4, ((True,),)),
                (4, (0,), ((0, 1, 2, 3),), ((1, 1, 2, 3), (2, 2, 2, 3), (3, 3, 3, 3), (3, 3, 3, 3))))
        self.assertEqual(full_depth(deep), 4)
        seen = set()
        for machine, _ in some_pairs(120, 331):
            told = full_depth(machine)
            seen.add(told)
            all_ends = {state for state, _ in results(machine)}
            self.assertEqual(all_ends, self.ends_within(machine, told))
            if told > 1:
                self.assertLess(len(self.ends_within(machine, told - 1)), len(all_ends))
        self.assertTrue({1, 2} <= seen)

    def ends_within(self, machine, levels):
        """The states in which elements of at most so many levels end, told one within another."""
        within = self.ends_within(machine, levels - 1) if levels > 1 else set()
        maps = machine[3][2] + tuple(machine[3][3][child] for child in within)
        ends = set(machine[3][1])
        while True:
            more = ends | {row[state] for row in maps for state in ends}
            if more == ends:
                return ends
            ends = more

    def test_great(self):
        chance = seeded(332)
        for make in (some_machine, ordered_machine) * 5:
            machine = make(chance, ("a", "b"), ("t", "u"), 4, 4, 4)
            ladder = some_ladder(chance, ("a", "b", "c"), ("t",), (20,) * 4, 4)
            self.assertWithin(5, ladder_apart, machine, ladder)
            self.assertOnly((TooGreat,), self.assertWithin, 5, ladder_kinds, machine, ladder, most=2000)
            silent = machine[:2] + (machine[2][:4] + ((ladder[4][0],) * 4,),) + machine[3:]
            self.assertIsNone(self.assertWithin(5, ladder_apart, silent, with_part(4, (ladder[4][0],) * 20, ladder)))
            told = self.assertOnly((TooGreat,), self.assertWithin, 5, keeper_ladder, machine, 6, most=2000)
            if not isinstance(told, TooGreat) and max(level[0] for level in told[3]) <= 60:
                self.assertIsNone(self.assertWithin(5, ladder_apart, machine, told))
                self.assertWithin(5, ladder_kinds, machine, told, most=2000)


if __name__ == "__main__":
    unittest.main()

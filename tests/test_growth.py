"""[43] to [46]: words machines, how their kinds grow, and papers of it."""

import unittest

from stillopen.counts import counts_to, stack_machine
from stillopen.errors import Refused
from stillopen.growth import (
    at_rest, bits, bits_at, check_words_machine, counted, grows, grows_holds, growth, loops, most_kinds, ranks, ranks_hold,
    rests, useful,
)
from given import ANY_VALUES, Case, as_lists, seeded, some_machine, some_words

# Loops of 0, of 1 and 2, of 4, one behind another; 3 leads between them, 5 leads nowhere, nothing leads to 6.
ROW = (7, 0, (((0, 0), (3, 1)), ((1, 2), (2, 3)), ((4, 1),), ((0, 4), (9, 5)), ((7, 4),), ((0, 5),), ((0, 6), (1, 0))),
       ((), (1,), (), (), (0, 5), (), (1,)))
TWO = (2, 0, (((0, 1), (1, 1)), ((5, 0),)), ((3,), ()))
TURN = (2, 0, (((0, 1),), ((0, 0),)), ((0, 1, 2), (1,)))
NONE = (2, 0, (((0, 0), (1, 0)), ((0, 0),)), ((), (1,)))
WAY = (3, 0, (((2, 1),), ((1, 2), (3, 2)), ()), ((0,), (), (0, 1)))
KNOWN = (ROW, TWO, TURN, NONE, WAY)
NO_WORDS = (
    None, 3, True, "abcd", (), ROW[:3], ROW + (0,), (0, 0, (), ()), (1, 1, ((),), ((),)), (True, 0, ((),), ((),)),
    (1, False, ((),), ((),)), (1, 0, (), ((),)), (1, 0, ((),), ()), (1, 0, ((), ()), ((),)), (1, 0, (None,), ((),)),
    (1, 0, (((0,),),), ((),)), (1, 0, (((0, 1),),), ((),)), (1, 0, (((0, 0), (0, 0)),), ((),)), (1, 0, (((True, 0),),), ((),)),
    (1, 0, (((1, 0), (0, 0)),), ((),)), (1, 0, (((-1, 0),),), ((),)), (1, 0, (((0, False),),), ((),)), (1, 0, ((),), (None,)),
    (1, 0, ((),), ((2000,),)), (1, 0, ((),), ((-1,),)), (1, 0, ((),), ((True,),)), (1, 0, ((),), ((1, 1),)),
    (1, 0, ((),), ((1, 0),)), (2001, 0, ((),) * 2001, ((),) * 2001), ("1", 0, ((),), ((),)), (1, None, ((),), ((),)),
    (1, 0, ((3,),), ((),)), (1, 0, (((None, 0),),), ((),)), (-1, 0, (), ()), (10 ** 30, 0, (), ()),
    (2, 0, ((), ((0, 2),)), ((), ())), (2, 0, (((1, 0), (0, 0)), ()), ((), ())), (2, 0, ((), ()), ((), (1, 0))),
    (2, 0, ((), ()), ((2000,), (1,))), (2, 2, ((), ()), ((), ())), (2, 0, ((), ((0, 0), (0, 1))), ((), ())),
)
OF_WORDS = {
    "counted": lambda words: counted(words, None), "most_kinds": lambda words: most_kinds(words, None),
    "bits_at": lambda words: bits_at(words, None), "useful": useful, "loops": loops, "growth": growth, "bits": bits,
    "rests": rests, "at_rest": lambda words: at_rest(words, None, None), "grows": grows, "ranks": ranks,
    "grows_holds": lambda words: grows_holds(words, None), "ranks_hold": lambda words: ranks_hold(words, None),
    "check_words_machine": check_words_machine,
}


class Plain:
    """A words machine told plainly: who leads to whom by letters, one or more, and what rests on that."""

    def __init__(self, words):
        self.many, self.start, self.steps, self.tops = words
        states = range(self.many)
        self.leads = {(one, other) for one in states for _, other in self.steps[one]}
        for middle in states:
            self.leads |= {(one, other) for one in states for other in states
                           if (one, middle) in self.leads and (middle, other) in self.leads}
        self.useful = [state for state in states if (state == self.start or (self.start, state) in self.leads)
                       and any(self.tops[end] and (end == state or (state, end) in self.leads) for end in states)]
        self.loops = sorted({tuple(other for other in self.useful if {(one, other), (other, one)} <= self.leads)
                             for one in self.useful if (one, one) in self.leads})

    def loop_of(self, state):
        return next((loop for loop in self.loops if state in loop), None)

    def two(self):
        """Whether a state has two steps to its loop."""
        return any(len([1 for _, behind in self.steps[state] if behind in loop]) > 1
                   for loop in self.loops for state in loop)

    def rank(self, state):
        """How many loops stand one behind another at most on a way from a state."""
        ahead = [loop for loop in self.loops if state in loop or (state, loop[0]) in self.leads]

        def chain(loop):
            behind = [other for other in ahead if other != loop and (loop[0], other[0]) in self.leads]
            return 1 + max(map(chain, behind), default=0)

        return max(map(chain, ahead), default=0)

    def place(self, state):
        """How many steps lead on at most among states of one rank, up to the first in a loop."""
        if self.loop_of(state):
            return 0
        return max([1 + self.place(behind) for _, behind in self.steps[state]
                    if behind in self.useful and self.rank(behind) == self.rank(state)], default=0)

    def letter(self, state):
        """The letter of a state's step in its loop."""
        return next((letter for letter, behind in self.steps[state] if behind in (self.loop_of(state) or ())), None)

    def led(self, state, letters):
        """Where letters lead a state, None if they do not."""
        if not isinstance(letters, (list, tuple)):
            return None
        for letter in letters:
            if type(letter) is not int or state is None:
                return None
            state = dict(self.steps[state]).get(letter)
        return state

    def is_paper(self, value):
        """Whether a paper tells what [46] says."""
        if not isinstance(value, (list, tuple)) or not value:
            return False
        if value[0] == "two" and len(value) == 5:
            state = self.led(self.start, value[1])
            if state is None or [self.led(state, part) for part in value[2:4]] != [state, state]:
                return False
            end = self.led(state, value[4])
            return (list(value[2]) != list(value[3]) and len(value[2]) == len(value[3]) and end is not None
                    and self.tops[end] != ())
        if value[0] != "row" or len(value) != 3 or not isinstance(value[1], (list, tuple)):
            return False
        states = [self.start]
        for pair in value[1]:
            if not isinstance(pair, (list, tuple)) or len(pair) != 2:
                return False
            states.append(self.led(states[-1], pair[0]))
            if states[-1] is None or not pair[1] or self.led(states[-1], pair[1]) != states[-1]:
                return False
        if any((states[later], states[one]) in self.leads for later in range(len(states)) for one in range(1, later)):
            return False
        end = self.led(states[-1], value[2])
        return end is not None and self.tops[end] != ()

    def are_ranks(self, value):
        """Whether told ranks are what [46] says."""
        def is_number(part):
            return type(part) is int and part >= 0

        if not isinstance(value, (list, tuple)) or len(value) != self.many:
            return False
        for told in value:
            if told is not None and not (isinstance(told, (list, tuple)) and len(told) == 3 and is_number(told[0])
                                         and is_number(told[1]) and (told[2] is None or is_number(told[2]))):
                return False
        for state in self.useful:
            if value[state] is None:
                return False
            rank, place, letter = value[state]
            if letter is not None and rank == 0:
                return False
            for by, behind in self.steps[state]:
                if value[behind] is None:
                    continue
                other = value[behind]
                good = other[1] < place if letter is None else by == letter and other[2] is not None
                if other[0] > rank or (other[0] == rank and not good):
                    return False
        return True


def bent(chance, value):
    """A paper or ranks, bent at one place."""
    if not isinstance(value, (list, tuple)) or (chance.random() < 0.2 and len(value) > 0) or len(value) == 0:
        other = [0, 1, 2, 3, None, True, (), (0,), (0, 0), (0, 0, None), (1, 0, 1), "row", "two", -1, ((), (0,))]
        if isinstance(value, (list, tuple)) and chance.random() < 0.7:
            parts = list(value)
            word = chance.choice(("drop", "twice", "turn", "more"))
            if word == "more" or not parts:
                parts.insert(chance.randint(0, len(parts)), chance.choice(other))
            elif word == "drop":
                parts.pop(chance.randrange(len(parts)))
            elif word == "twice":
                parts.append(chance.choice(parts))
            else:
                parts.reverse()
            return tuple(parts)
        return chance.choice(other)
    at = chance.randrange(len(value))
    return tuple(value[:at]) + (bent(chance, value[at]),) + tuple(value[at + 1:])


def many_words(many, seed):
    """The known words machines, and many by chance."""
    chance = seeded(seed)
    yield from KNOWN
    for _ in range(many):
        yield some_words(chance)


def kinds_of(words, depth):
    """How many kinds there are of a depth, told by going through all rows of letters."""
    states = [words[1]]
    for _ in range(depth):
        states = [behind for state in states for _, behind in words[2][state]]
    return sum(len(words[3][state]) for state in states)


class Kinds(Case):
    def test_checks(self):
        for words in KNOWN + ((1, 0, [[(10 ** 30, 0)]], [[1999]]), (2000, 1999, ((),) * 2000, ((),) * 2000)):
            told = check_words_machine(as_lists(words))
            self.assertEqual(told, check_words_machine(words))
            self.assertTuples(told)
            self.assertEqual(as_lists(told), as_lists(words))

    def test_wrong_words(self):
        for name, call in OF_WORDS.items():
            for words in NO_WORDS:
                self.assertFails(Refused, words, call, words)
            for value in ANY_VALUES:
                self.assertFails(Refused, value, call, value)

    def test_wrong_depths(self):
        for call in (counted, most_kinds, bits_at):
            for depth in (-1, True, False, None, "1", (1,), [0]):
                self.assertFails(Refused, depth, call, ROW, depth)
            for value in ANY_VALUES:
                if not isinstance(value, int) or value < 300:
                    self.assertOnly((Refused,), call, ROW, value)

    def test_counted(self):
        self.assertEqual(counted(TURN, 3), (3, 1, 3, 1))
        self.assertEqual(counted(NONE, 2), (0, 0, 0))
        self.assertEqual(counted(WAY, 4), (1, 0, 4, 0, 0))
        self.assertEqual((most_kinds(WAY, 0), most_kinds(WAY, 1), most_kinds(WAY, 9)), (1, 1, 4))
        self.assertEqual((bits_at(NONE, 3), bits_at(WAY, 1), bits_at(WAY, 2), bits_at(TURN, 0)), (0, 0, 2, 2))
        for words in many_words(60, 161):
            told = counted(words, 5)
            self.assertEqual(told, tuple(kinds_of(words, depth) for depth in range(6)))
            self.assertTuples(told)
            for depth in range(6):
                self.assertEqual(counted(as_lists(words), depth), told[:depth + 1])
                most = most_kinds(words, depth)
                self.assertEqual(most, max(told[:depth + 1]))
                self.assertEqual(bits_at(words, depth), next(n for n in range(99) if 2 ** n >= most))

    def test_useful_and_loops(self):
        self.assertEqual(useful(ROW), (0, 1, 2, 3, 4))
        self.assertEqual(loops(ROW), ((0,), (1, 2), (4,)))
        self.assertEqual((useful(NONE), loops(NONE), useful(WAY), loops(WAY)), ((), (), (0, 1, 2), ()))
        for words in many_words(400, 162):
            plain = Plain(words)
            self.assertEqual(useful(words), tuple(plain.useful))
            self.assertEqual(loops(words), tuple(plain.loops))
            self.assertEqual((useful(as_lists(words)), loops(as_lists(words))), (tuple(plain.useful), tuple(plain.loops)))
            self.assertTuples((useful(words), loops(words)))


class Growths(Case):
    def test_told(self):
        self.assertEqual([growth(words) for words in KNOWN],
                         [("power", 2), ("depth",), ("bounded", 3), ("bounded", 0), ("bounded", 4)])
        self.assertEqual([bits(words) for words in KNOWN], ["logarithm", "depth", "bounded", "bounded", "bounded"])
        self.assertEqual((rests(ROW), rests(TWO), rests(NONE)), (None, None, (0, 1, (0,))))
        self.assertEqual(rests(WAY), (3, 1, (1, 0, 4, 0)))

    def test_many(self):
        seen = set()
        for words in many_words(400, 163):
            plain = Plain(words)
            told = growth(as_lists(words))
            self.assertEqual(growth(words), told)
            seen.add(told[:1] if told[0] == "bounded" else told)
            great = max(counted(words, 400)) if told[0] != "bounded" else 0
            if plain.two():
                self.assertEqual((told, bits(words)), (("depth",), "depth"))
                # Two ways round of so few letters double the kinds each time.
                self.assertGreater(great, 2 ** (400 // (2 * plain.many) - 3))
            elif plain.start in plain.useful and plain.rank(plain.start) > 1:
                power = plain.rank(plain.start) - 1
                self.assertEqual((told, bits(words)), (("power", power), "logarithm"))
                half = max(counted(words, 200))
                self.assertTrue(half * 2 ** power < great * 2 and great < half * 2 ** power * 2, (half, great, power))
            else:
                self.assertEqual(bits(words), "bounded")
                self.assertEqual(told, ("bounded", max(counted(words, 100))))
        self.assertGreaterEqual(seen, {("bounded",), ("power", 1), ("power", 2), ("depth",)})

    def test_rests(self):
        for words in many_words(400, 164):
            told = rests(words)
            self.assertEqual(told is None, growth(words)[0] != "bounded")
            self.assertEqual(rests(as_lists(words)), told)
            if told is None:
                continue
            plain = Plain(words)
            row = [1 if state == plain.start else 0 for state in plain.useful]
            rows = []
            while row not in rows:
                rows.append(row)
                row = [sum(row[at] for at, one in enumerate(plain.useful) for _, behind in plain.steps[one]
                           if behind == state) for state in plain.useful]
            first = rows.index(row)
            self.assertEqual(told[:2], (first, len(rows) - first))
            self.assertEqual(told[2], counted(words, len(rows) - 1))
            self.assertTuples(told)
            later = counted(words, 3 * len(rows))
            for depth in range(first, 2 * len(rows)):
                self.assertEqual(later[depth], later[depth + told[1]])

    def test_at_rest(self):
        for number, words in enumerate(many_words(40, 165)):
            for modulo in (1, 2, 3, 5, 12):
                for rest in range(modulo):
                    told = at_rest(words, modulo, rest)
                    self.assertEqual(check_words_machine(told), told)
                    self.assertTuples(told)
                    wanted = tuple(many if depth % modulo == rest else 0 for depth, many in enumerate(counted(words, 26)))
                    self.assertEqual(counted(told, 26), wanted)
                    if number < 20:
                        self.assertEqual(counted(at_rest(as_lists(words), modulo, rest), 26), wanted)
                        if growth(told)[0] == "bounded":
                            self.assertEqual(growth(told)[1], max(counted(told, 130)))
        # Kinds grow at even depths alone.
        pair = (2, 0, (((0, 1), (1, 1)), ((0, 0),)), ((0,), ()))
        self.assertEqual((growth(at_rest(pair, 2, 0)), growth(at_rest(pair, 2, 1))), (("depth",), ("bounded", 0)))

    def test_wrong_rests(self):
        for modulo in (0, 13, -1, True, None, "2", (1,), 10 ** 20):
            self.assertFails(Refused, modulo, at_rest, ROW, modulo, None)
        for rest in (2, -1, True, False, None, "0", (0,)):
            self.assertFails(Refused, rest, at_rest, ROW, 2, rest)
        for value in ANY_VALUES:
            self.assertOnly((Refused,), at_rest, ROW, value, 0)
            self.assertOnly((Refused,), at_rest, ROW, 12, value)

    def test_of_counts(self):
        chance = seeded(166)
        for _ in range(40):
            machine = some_machine(chance, ("a",), ("t",), 2, 3, 1)
            words = stack_machine(machine, most=2000)
            counts = counts_to(machine, 40, most=2000)
            self.assertEqual(counted(words, 40), counts)
            self.assertEqual(len(useful(words)), words[0])
            if growth(words)[0] == "bounded":
                self.assertEqual(growth(words)[1], max(counts))


class Papers(Case):
    def test_told(self):
        self.assertEqual(grows(NONE), None)
        self.assertEqual(grows(WAY), ("row", (), ()))
        self.assertEqual(grows(TURN)[0], "row")
        self.assertEqual(len(grows(ROW)[1]), 3)
        self.assertEqual(ranks(TWO), None)
        self.assertEqual(ranks(NONE), (None, None))
        self.assertEqual(ranks(WAY), ((0, 2, None), (0, 1, None), (0, 0, None)))
        self.assertEqual(ranks(ROW), ((3, 0, 0), (2, 0, 1), (2, 0, 4), (1, 1, None), (1, 0, 7), None, None))

    def test_grows(self):
        for words in many_words(400, 167):
            plain = Plain(words)
            told = grows(words)
            self.assertTuples(told)
            self.assertEqual(grows(as_lists(words)), told)
            self.assertEqual(told is None, plain.useful == [])
            self.assertIs(grows_holds(words, told), told is not None)
            if told is not None:
                self.assertTrue(plain.is_paper(told))
                self.assertIs(grows_holds(as_lists(words), as_lists(told)), True)
                rate = growth(words)
                self.assertEqual(told[0], "two" if rate[0] == "depth" else "row")
                if rate[0] == "power":
                    self.assertEqual(len(told[1]), rate[1] + 1)
                elif rate[0] == "bounded":
                    self.assertLessEqual(len(told[1]), 1)
                self.assertIs(grows_holds(words, ("row", (), ())), plain.tops[plain.start] != ())

    def test_other_papers(self):
        self.assertIs(grows_holds(TWO, ("row", (((), (0, 5)),), ())), True)
        self.assertIs(grows_holds(TWO, ("row", (((0,), (5, 0)),), (5,))), True)
        self.assertIs(grows_holds(TWO, ("row", (((), (0, 5)), ((), (1, 5))), ())), False)
        self.assertIs(grows_holds(TWO, ("two", (), (0, 5), (1, 5), ())), True)
        self.assertIs(grows_holds(TWO, ("two", (), (0, 5), (0, 5), ())), False)
        self.assertIs(grows_holds(TWO, ("two", (), [0, 5], (0, 5), ())), False)
        self.assertIs(grows_holds(TWO, ("two", (), (0, 5), (1, 5, 0, 5), ())), False)
        self.assertIs(grows_holds(TWO, ("two", (), (False, 5), (1, 5), ())), False)
        self.assertIs(grows_holds(TWO, ("two", (0,), (5, 0), (5, 1), ())), False)
        self.assertIs(grows_holds(TWO, ("two", (0,), (5, 0), (5, 1), (5,))), True)
        for value in (
            ("row", (((), (0,)), ((3,), (1, 4)), ((2, 0), (7,))), ()), ("row", (((), (0,)), ((3, 1), (4, 1))), (4,)),
            ("row", (((0,), (0, 0)), ((3, 1, 4, 2, 0), (7, 7))), (7,)), ("row", (), (3,)), ("row", [], [0, 3, 1, 4]),
        ):
            self.assertIs(grows_holds(ROW, value), True)
        for value in (
            ("row", (((), (0,)), ((0,), (0,))), (3,)), ("row", (((3,), (1, 4)), ((1,), (4, 1))), (4,)), ("row", (), ()),
            ("row", (((3,), (1,)),), (4,)), ("row", (((3,), ()),), ()), ("row", (((2,), (0,)),), (3,)), ("row", (), (1,)),
            ("row", (((3, 2), (0,)),), (0,)), ("row", (((), (0,)),), (3, 2)), ("row", (((), (0,), ()),), (3,)),
            ("row", (((), (0,)),)), ("two", (), (0,), (0, 0), (3,)), ("row", (((), (0,)),), (3,), ()),
        ):
            self.assertIs(grows_holds(ROW, value), False)

    def test_bent_papers(self):
        chance = seeded(168)
        good = 0
        for words in many_words(250, 169):
            plain, told = Plain(words), grows(words)
            if told is None:
                continue
            for _ in range(20):
                value = bent(chance, told)
                wanted = plain.is_paper(value)
                good += wanted
                self.assertIs(grows_holds(words, value), wanted, (words, value))
        self.assertGreater(good, 100)

    def test_any_papers(self):
        for value in ANY_VALUES + (("row", (), ()), ("two", (), (), (), ()), ("row", None, None), ("row", ((),), ())):
            for words in KNOWN:
                self.assertIs(grows_holds(words, value), Plain(words).is_paper(value))
                self.assertIs(ranks_hold(words, value), Plain(words).are_ranks(value))

    def test_ranks(self):
        for words in many_words(400, 170):
            plain, told = Plain(words), ranks(words)
            self.assertEqual(ranks(as_lists(words)), told)
            self.assertTuples(told)
            self.assertEqual(told is None, plain.two())
            if told is not None:
                wanted = tuple((plain.rank(state), plain.place(state), plain.letter(state)) if state in plain.useful else None
                               for state in range(plain.many))
                self.assertEqual(told, wanted)
                self.assertTrue(plain.are_ranks(told))
                self.assertIs(ranks_hold(words, as_lists(told)), True)
                rate = growth(words)
                at_start = told[words[1]]
                power = at_start[0] - 1 if at_start is not None else 0
                self.assertEqual(max(power, 0), rate[1] if rate[0] == "power" else 0)

    def test_other_ranks(self):
        # 0 leads by 5 to itself, by 1 to 1; 2 is not useful.
        words = (3, 0, (((1, 1), (4, 2), (5, 0)), (), ((0, 2),)), ((), (0,), ()))
        for value in (
            ((1, 0, 5), (0, 0, None), None), ((3, 9, 5), (2, 7, 0), None), [[1, 0, 5], [0, 0, None], None],
            ((1, 0, 5), (0, 0, None), (0, 0, 0)),
        ):
            self.assertIs(ranks_hold(words, value), True, value)
        for value in (
            ((0, 0, 5), (0, 0, None), None), ((1, 0, 5), None, None), ((1, 0, 1), (0, 0, None), None),
            ((1, 0, 5), (1, 0, None), None), ((1, 0, 5), (1, 0, 3), None), ((1, 1, None), (0, 0, None), None),
            ((1, 0, 5), (0, 0, 0), None), ((1, 0, 5), (2, 0, None), None), ((1, 0, 5), (0, 0, None)), ((1, 0), (0, 0, None), None),
            ((1, 0, 5), (0, 0, None), 0), ((True, 0, 5), (0, 0, None), None), ((1, 0, 5), (0, -1, None), None),
            ((1, 0, 5), (0, 0, None), (1, 0, 4, 4)), ((1, 0, 5), (0, 0, "0"), None), ((1, 0, 5), (0, 0, None), (2, 0, None)),
        ):
            self.assertIs(ranks_hold(words, value), False, value)
        step = (2, 0, (((5, 1),), ((3, 1),)), ((), (0,)))
        self.assertIs(ranks_hold(step, ((1, 1, None), (1, 0, 3))), True)
        self.assertIs(ranks_hold(step, ((1, 0, 5), (1, 0, 3))), True)
        self.assertIs(ranks_hold(step, ((1, 0, 3), (1, 0, 3))), False)
        self.assertIs(ranks_hold(step, ((1, 0, None), (1, 0, 3))), False)
        way = (2, 0, (((5, 1),), ()), ((), (0,)))
        self.assertIs(ranks_hold(way, ((1, 0, 5), (1, 0, 3))), True)
        self.assertIs(ranks_hold(way, ((1, 0, 5), (1, 0, None))), False)
        self.assertIs(ranks_hold(way, ((1, 1, None), (1, 0, None))), True)

    def test_bent_ranks(self):
        chance = seeded(171)
        good = 0
        for words in many_words(250, 172):
            plain, told = Plain(words), ranks(words)
            if told is None:
                told = tuple((1, 0, 0) for _ in range(plain.many))
            for _ in range(20):
                value = bent(chance, told)
                wanted = plain.are_ranks(value)
                good += wanted
                self.assertIs(ranks_hold(words, value), wanted, (words, value))
        self.assertGreater(good, 300)

    def test_great(self):
        chance = seeded(173)
        letters = range(200)
        dense = (60, 0, tuple(tuple((letter, chance.randrange(60)) for letter in letters) for _ in range(60)), ((0,),) * 60)
        # Sixty loops one behind another; loops whose turns meet again after 840 depths; one long way.
        loop_row = (60, 0, tuple(((0, state), (1, state + 1))[:1 + (state < 59)] for state in range(60)), ((0, 1),) * 60)
        turns, rows = (3, 5, 7, 8), [[]]
        for turn in turns:
            first = len(rows)
            rows[0].append((first, first))
            rows += [[(0, first + (place + 1) % turn)] for place in range(turn)]
        turning = (len(rows), 0, tuple(map(tuple, rows)), ((), (0,)) + ((), (1, 2)) * ((len(rows) - 2) // 2))
        way = (60, 0, tuple(((9, state + 1),) for state in range(59)) + ((),), ((),) * 59 + ((7,),))
        self.assertEqual(growth(loop_row), ("power", 59))
        self.assertEqual((rests(turning)[1], growth(way), rests(way)[0]), (840, ("bounded", 1), 60))
        for words in (dense, loop_row, turning, way):
            for call in (lambda one: counted(one, 400), lambda one: bits_at(one, 400), useful, loops, growth, rests, ranks):
                self.assertWithin(5, call, words)
            paper = self.assertWithin(5, grows, words)
            self.assertIs(self.assertWithin(5, grows_holds, words, paper), True)
            told = ranks(words)
            self.assertIs(self.assertWithin(5, ranks_hold, words, told), told is not None)
            part = self.assertWithin(5, at_rest, words, 12, 7)
            self.assertLessEqual(part[0], 720)
            for call in (growth, grows, ranks, loops):
                self.assertWithin(5, call, part)
        long = ("row", (((), (0,) * 4000),) * 4000, ())
        self.assertIs(self.assertWithin(5, grows_holds, loop_row, long), False)
        self.assertIs(grows_holds(loop_row, ("row", (((), (0,) * 4000),), (1,) * 59)), True)


if __name__ == "__main__":
    unittest.main()

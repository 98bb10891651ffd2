"""[54] to [56]: what pieces of rows of signs do, put together, and of rows that are edited."""

import unittest

from stillopen.documents import document_of
from stillopen.errors import BadMachine, BadSign, Refused
from stillopen.lots import inner_maps, top_maps
from stillopen.machines import answer, check_machine
from stillopen.pieces import Edited, act, check_piece, joined, no_piece, piece_of, sign_piece
from stillopen.stacks import after_all
from given import (
    ANY_VALUES, HAS, NO_MACHINES, ONE, Case, any_machines, any_stack, as_lists, great_machine, seeded, some_prefix,
    step_plainly,
)

OPEN, CLOSE, TEXT = ("open", "a"), ("close",), ("text", "t")
SAME = ((0, 1), (0, 1))
SOME = (OPEN, ("open", "b"), TEXT, ("text", "u"), CLOSE, CLOSE)


def some_signs(chance, many):
    """A row of signs, of which some close what is open ahead of it."""
    return tuple(chance.choice(SOME) for _ in range(many))


def piece_plainly(machine, signs):
    """The piece of signs, told by what they do with each single state."""
    labels, texts, tops, inners = machine
    closes, opens = [tuple(tuple(range(part[0])) for part in (inners, tops))], []

    def kind(names, value):
        return names.index(value) if value in names else len(names)

    def lead(inner, top):
        if opens:
            opens[-1] = inner[opens[-1]]
        else:
            closes[-1] = tuple(inner[state] for state in closes[-1][0]), tuple(top[state] for state in closes[-1][1])

    for sign in signs:
        if sign[0] == "open":
            opens.append(inners[1][kind(labels, sign[1])])
        elif sign[0] == "text":
            lead(inners[2][kind(texts, sign[1])], tops[2][kind(texts, sign[1])])
        elif opens:
            child = opens.pop()
            lead(inners[3][child], tops[3][child])
        else:
            closes.append(tuple(tuple(range(part[0])) for part in (inners, tops)))
    return tuple(closes), tuple(opens)


def doublings(many):
    """How many doublings lead from 1 to so many, or beyond."""
    return (many - 1).bit_length() if many > 1 else 0


def put_together(chance, machine, pieces):
    """All pieces put together, in brackets of any kind."""
    if len(pieces) == 1:
        return pieces[0]
    at = chance.randint(1, len(pieces) - 1)
    return joined(machine, put_together(chance, machine, pieces[:at]), put_together(chance, machine, pieces[at:]))


class Pieces(Case):
    def test_told(self):
        self.assertEqual(no_piece(HAS), ((SAME,), ()))
        self.assertEqual(sign_piece(HAS, ["open", "a"]), ((SAME,), (1,)))
        self.assertEqual(sign_piece(HAS, ("open", "b")), ((SAME,), (0,)))
        self.assertEqual(sign_piece(HAS, CLOSE), ((SAME, SAME), ()))
        self.assertEqual(piece_of(HAS, ()), no_piece(HAS))
        self.assertEqual(piece_of(HAS, [OPEN, CLOSE]), ((((1, 1), (1, 1)),), ()))
        self.assertEqual(act(HAS, [0, 1], sign_piece(HAS, CLOSE)), (1,))
        self.assertEqual(act(HAS, (0,), as_lists(sign_piece(HAS, OPEN))), (0, 1))

    def test_of_signs(self):
        chance = seeded(361)
        for machine in any_machines(80, 362):
            for sign in SOME:
                self.assertEqual(sign_piece(machine, sign), piece_plainly(machine, (sign,)))
            for _ in range(10):
                signs = some_signs(chance, chance.randint(0, 12))
                told = piece_of(machine, signs)
                self.assertEqual(told, piece_plainly(machine, signs))
                self.assertEqual(piece_of(as_lists(machine), as_lists(signs)), told)
                self.assertTuples(told)
                self.assertEqual(check_piece(machine, as_lists(told)), told)
                self.assertTuples(check_piece(machine, as_lists(told)))

    def test_maps_are_those_of_forests(self):
        chance = seeded(363)
        for machine in any_machines(40, 364):
            inner = [made for made, _ in inner_maps(machine)]
            top = [made for made, _ in top_maps(machine)]
            for _ in range(5):
                closes, _ = piece_of(machine, some_signs(chance, 10))
                for pair in closes:
                    self.assertIn(pair[0], inner)
                    self.assertIn(pair[1], top)

    def test_cut_and_put_together(self):
        chance = seeded(365)
        for machine in any_machines(80, 366):
            signs = some_signs(chance, chance.randint(1, 14))
            cuts = sorted(chance.randint(0, len(signs)) for _ in range(chance.randint(0, 5)))
            rows = [signs[one:other] for one, other in zip([0] + cuts, cuts + [len(signs)])]
            pieces = [piece_of(machine, row) for row in rows]
            self.assertEqual(put_together(chance, machine, pieces), piece_of(machine, signs))
            singles = [sign_piece(machine, sign) for sign in signs]
            self.assertEqual(put_together(chance, machine, singles), piece_of(machine, signs))
            self.assertEqual(joined(machine, no_piece(machine), pieces[0]), pieces[0])
            self.assertEqual(joined(as_lists(machine), as_lists(pieces[0]), no_piece(machine)), pieces[0])

    def test_act(self):
        chance = seeded(367)
        refused = 0
        for machine in any_machines(80, 368):
            for _ in range(10):
                signs = some_signs(chance, chance.randint(0, 10))
                piece = piece_of(machine, signs)
                deep = chance.randint(0, 4)
                stack = any_stack(chance, machine, deep)
                if len(piece[0]) - 1 > deep:
                    self.assertFails(Refused, piece, act, machine, stack, piece)
                    refused += 1
                    continue
                self.assertEqual(act(machine, stack, piece), after_all(machine, stack, signs))
                self.assertEqual(act(as_lists(machine), list(stack), as_lists(piece)), after_all(machine, stack, signs))
                self.assertTuples(act(machine, list(stack), as_lists(piece)))
        self.assertGreater(refused, 50)

    def test_pieces_that_no_signs_make(self):
        made = ((((1, 0), (1, 0)), ((0, 0), (1, 1))), (1, 0))
        self.assertEqual(check_piece(HAS, made), made)
        # The innermost level is led to 0, which is closed in 0; the level around is led to 1 by its top map.
        self.assertEqual(act(HAS, (0, 1), made), (1, 1, 0))
        self.assertEqual(act(HAS, (0, 0, 1), made), (0, 0, 1, 0))
        self.assertEqual(joined(HAS, made, sign_piece(HAS, CLOSE))[1], (1,))

    def test_wrong(self):
        for call in (check_piece, sign_piece, piece_of, Edited):
            for at, value in NO_MACHINES:
                self.assertFails(BadMachine, at, call, value, None)
        self.assertMachineFirst(no_piece)
        self.assertMachineFirst(lambda value: joined(value, None, None))
        self.assertMachineFirst(lambda value: act(value, None, None))
        good = no_piece(HAS)
        wrong = [
            None, (), ((SAME,),), ((SAME,), (), ()), ((), ()), (None, ()), ((SAME,), None), ((SAME,), (2,)),
            ((SAME,), (True,)), ((SAME,), (-1,)), (((0, 1),), ()), (((SAME[0],),), ()), ((((0, 2), (0, 1)),), ()),
            ((((0, 1), (0, 2)),), ()), ((((0, 1), (0,)),), ()), ((((0, True), (0, 1)),), ()), ((SAME, None), ()), "piece",
        ]
        for value in wrong:
            self.assertFails(Refused, value, check_piece, HAS, value)
            self.assertFails(Refused, value, joined, HAS, value, None)
            self.assertFails(Refused, value, joined, HAS, good, value)
            self.assertFails(Refused, value, act, HAS, (0, 1), value)
            self.assertFails(Refused, (), act, HAS, (), value)
        for stack in ((2,), None, (0, 2), (True,)):
            self.assertFails(Refused, stack, act, HAS, stack, None)
        for at, sign in ((-1, None), (1, ("open", "A")), (1, ("text", 3)), (-1, ("close", 1))):
            self.assertFails(BadSign, at, sign_piece, HAS, sign)
            for value in (sign, [sign], (OPEN, sign), None):
                if value != sign or sign is not None:
                    self.assertFails(Refused, value, piece_of, HAS, value)
                    self.assertFails(Refused, value, Edited, HAS, value)
        for value in ANY_VALUES:
            self.assertOnly((Refused,), check_piece, HAS, value)
            self.assertOnly((Refused,), joined, HAS, value, value)
            self.assertOnly((Refused,), act, HAS, value, value)
            self.assertOnly((Refused,), act, HAS, (0,), value)
            self.assertOnly((BadSign,), sign_piece, HAS, value)
            self.assertOnly((Refused,), piece_of, HAS, value)
            self.assertOnly((Refused,), Edited, HAS, value)


class EditedRows(Case):
    def test_told(self):
        edited = Edited(as_lists(HAS), [["open", "a"], ["close"]])
        self.assertEqual((edited.many(), edited.all_signs(), edited.made), (2, (OPEN, CLOSE), 1))
        self.assertTuples(edited.all_signs())
        self.assertEqual((edited.whole(), edited.answer()), (((((1, 1), (1, 1)),), ()), (True,)))
        self.assertEqual(edited.part(1, 2), sign_piece(HAS, CLOSE))
        self.assertEqual(edited.part(1, 1), no_piece(HAS))
        self.assertIsNone(edited.edit(0, 1, [["open", "b"]]))
        self.assertEqual((edited.all_signs(), edited.answer()), ((("open", "b"), CLOSE), (False,)))
        edited.edit(0, 2, ())
        self.assertEqual((edited.many(), edited.all_signs(), edited.whole()), (0, (), no_piece(HAS)))
        self.assertEqual(edited.answer(), (False,))
        edited.edit(0, 0, (OPEN,))
        self.assertFails(Refused, (OPEN,), edited.answer)
        edited.edit(0, 1, (CLOSE, OPEN))
        self.assertFails(Refused, (CLOSE, OPEN), edited.answer)
        self.assertEqual(Edited(ONE, ()).made, 0)

    def check_balanced(self, tree):
        """So that no edit puts together more often than is told, whatever was edited ahead."""
        if tree is not None and tree[3] is not None:
            self.assertLessEqual(abs(tree[3][0] - tree[4][0]), 1)
            self.assertEqual(tree[:2], (max(tree[3][0], tree[4][0]) + 1, tree[3][1] + tree[4][1]))
            self.check_balanced(tree[3])
            self.check_balanced(tree[4])

    def check_all(self, machine, edited, signs):
        """All is as of these signs, read anew."""
        self.check_balanced(edited.tree)
        self.assertEqual((edited.many(), edited.all_signs()), (len(signs), signs))
        self.assertEqual(edited.whole(), piece_plainly(machine, signs))
        level, is_stream = 0, True
        for sign in signs:
            level += {"open": 1, "close": -1}.get(sign[0], 0)
            is_stream = is_stream and level >= 0
        if is_stream and level == 0:
            self.assertEqual(edited.answer(), answer(machine, document_of(signs)))
        else:
            self.assertFails(Refused, signs, edited.answer)

    def test_edits(self):
        chance = seeded(369)
        streams = 0
        for machine in any_machines(60, 370):
            signs = some_signs(chance, chance.choice((0, 1, 2, 5, 20)))
            edited = Edited(machine, signs)
            self.assertLessEqual(edited.made, 2 * len(signs))
            self.check_all(machine, edited, signs)
            for _ in range(15):
                first = chance.choice((0, len(signs), chance.randint(0, len(signs))))
                behind = chance.choice((first, len(signs), chance.randint(first, len(signs))))
                news = some_signs(chance, chance.choice((0, 0, 1, 2, 3, 10)))
                if chance.random() < 0.3:
                    news = some_prefix(chance, 6) + (CLOSE,)
                ahead = edited.made
                self.assertEqual(edited.part(first, behind), piece_plainly(machine, signs[first:behind]))
                self.assertLessEqual(edited.made - ahead, 40 * (1 + doublings(len(signs))))
                ahead = edited.made
                self.assertIsNone(edited.edit(first, behind, as_lists(news)))
                self.assertLessEqual(edited.made - ahead, 40 * (1 + doublings(len(signs) + len(news))) + len(news))
                signs = signs[:first] + news + signs[behind:]
                ahead = edited.made
                self.check_all(machine, edited, signs)
                self.assertEqual(edited.made, ahead)
                streams += len(signs) > 0 and len(edited.whole()[0]) == 1 and edited.whole()[1] == ()
        self.assertGreater(streams, 10)

    def test_how_often(self):
        chance = seeded(371)
        for many in list(range(40)) + [100, 511, 512, 513, 2000]:
            signs = some_signs(chance, many)
            edited = Edited(HAS, signs)
            self.assertLessEqual(edited.made, 2 * many)
            for turn in range(60):
                many = edited.many()
                first = (0, many, chance.randint(0, many), many // 2)[turn % 4]
                behind = chance.choice((first, min(first + 1, many), chance.randint(first, many) if turn > 40 else first))
                news = some_signs(chance, (0, 1, 1, 30)[chance.randrange(4)])
                ahead = edited.made
                edited.part(min(first, behind), behind)
                self.assertLessEqual(edited.made - ahead, 40 * (1 + doublings(many)))
                ahead = edited.made
                edited.edit(first, behind, news)
                self.assertLessEqual(edited.made - ahead, 40 * (1 + doublings(many + len(news))) + len(news))
            self.assertEqual(edited.whole(), piece_plainly(HAS, edited.all_signs()))

    def test_refused(self):
        edited = Edited(HAS, (OPEN, TEXT, CLOSE))
        made = edited.made
        for first in (-1, 4, True, None, "1", (1,)):
            self.assertFails(Refused, first, edited.part, first, None)
            self.assertFails(Refused, first, edited.edit, first, None, None)
        for behind in (-1, 1, 4, True, None, "2"):
            self.assertFails(Refused, behind, edited.part, 2, behind)
            self.assertFails(Refused, behind, edited.edit, 2, behind, None)
        for signs in (None, OPEN, [OPEN, None], "signs", [("open", "A")], 3):
            self.assertFails(Refused, signs, edited.edit, 1, 2, signs)
        self.assertEqual((edited.all_signs(), edited.made, edited.many()), ((OPEN, TEXT, CLOSE), made, 3))
        for value in ANY_VALUES:
            self.assertOnly((Refused,), edited.part, value, value)
            self.assertOnly((Refused,), edited.edit, value, value, value)
            self.assertOnly((Refused,), edited.part, 1, value)

    def test_great(self):
        machine = great_machine(40)
        chance = seeded(372)
        for signs in (some_signs(chance, 2000), (OPEN,) * 1000 + (CLOSE,) * 1000, (CLOSE,) * 2000, (OPEN,) * 2000):
            self.assertEqual(self.assertWithin(5, piece_of, machine, signs), piece_plainly(machine, signs))
            edited = self.assertWithin(5, Edited, machine, signs)
            self.assertWithin(5, self.many_edits, edited, chance)
            self.assertEqual(edited.whole(), piece_plainly(machine, edited.all_signs()))
        stack = (0,)
        for sign in (OPEN, TEXT) * 20:
            stack = step_plainly(check_machine(machine), stack, sign)
        self.assertEqual(act(machine, (0,), piece_of(machine, (OPEN, TEXT) * 20)), stack)

    def many_edits(self, edited, chance):
        """Five hundred edits all over the row."""
        for _ in range(500):
            first = chance.randint(0, edited.many())
            edited.edit(first, min(first + 1, edited.many()), some_signs(chance, chance.randint(0, 2)))


if __name__ == "__main__":
    unittest.main()

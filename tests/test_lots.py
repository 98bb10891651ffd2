"""[27] to [29]: the maps that forests make, and the states in which elements end."""

import unittest

from stillopen.errors import Refused
from stillopen.lots import (
    element_to, inner_forest, inner_maps, inner_reached, results, top_forest, top_maps, top_reached,
)
from stillopen.machines import other_label, other_text
from given import ANY_VALUES, HAS, ONE, Case, as_lists, documents_of, plain_signs, seeded, some_machine

TURN = HAS[:2] + (HAS[2][:3] + (((0, 1), (1, 0)),) + HAS[2][4:], (2, (0, 1), ((0, 1),), ((0, 1), (1, 0))))
DOCUMENTS = [row for many in range(6) for row in documents_of(many)]


def led(machine, is_inner, state, nodes):
    """The state to which a row of nodes leads, told by recursion."""
    labels, texts, tops, inners = machine
    part = inners if is_inner else tops
    for node in nodes:
        if node[0] == "text":
            kind = texts.index(node[1]) if node[1] in texts else len(texts)
            state = part[2][kind][state]
        else:
            kind = labels.index(node[1]) if node[1] in labels else len(labels)
            state = part[3][led(machine, True, inners[1][kind], node[2])][state]
    return state


def made_by(machine, is_inner, nodes):
    """The map that a row of nodes makes."""
    part = machine[3] if is_inner else machine[2]
    return tuple(led(machine, is_inner, state, nodes) for state in range(part[0]))


def nodes_of(signs):
    """The nodes of a forest's signs."""
    rows, labels = [[]], []
    for sign in signs:
        if sign[0] == "text":
            rows[-1].append(sign)
        elif sign[0] == "open":
            labels.append(sign[1])
            rows.append([])
        else:
            row = tuple(rows.pop())
            rows[-1].append(("element", labels.pop(), row))
    return tuple(rows[0])


def some_machines(many, seed, most=3):
    chance = seeded(seed)
    for _ in range(many):
        yield some_machine(chance, chance.choice(((), ("a",))), chance.choice(((), ("t",))), chance.randint(1, most),
                           chance.randint(1, most))


class Lots(Case):
    def test_told(self):
        same = ((0, 1), ())
        self.assertEqual(inner_maps(ONE), (((0,), ()),))
        self.assertEqual(results(ONE), ((0, (("open", "a"), ("close",))),))
        self.assertEqual(inner_maps(TURN), (same, ((1, 0), (("open", "b"), ("close",)))))
        self.assertEqual(top_maps(TURN), inner_maps(TURN))
        self.assertEqual(top_forest(TURN, (0, 1)), ())
        self.assertEqual(inner_forest(TURN, [1, 0]), (("open", "b"), ("close",)))
        self.assertEqual((inner_reached(HAS), top_reached(HAS)), ((0, 1), (0, 1)))

    def test_all_forests(self):
        for machine in some_machines(60, 101):
            for is_inner, maps in ((True, inner_maps), (False, top_maps)):
                told = maps(machine)
                self.assertTuples(told)
                self.assertEqual([made for made, _ in told], sorted({made for made, _ in told}))
                least = dict(told)
                for made, signs in told:
                    self.assertEqual(plain_signs(nodes_of(signs)), signs)
                    self.assertEqual(made_by(machine, is_inner, nodes_of(signs)), made)
                for document in DOCUMENTS:
                    made = made_by(machine, is_inner, document)
                    self.assertLessEqual(len(least[made]), len(plain_signs(document)))
                for one in least:
                    for other in least:
                        self.assertIn(tuple(other[state] for state in one), least)

    def test_names(self):
        for machine in some_machines(60, 102):
            for _, signs in inner_maps(machine) + top_maps(machine) + results(machine):
                for sign in signs:
                    if sign[0] == "open":
                        self.assertIn(sign[1], machine[0] + (other_label(machine),))
                    elif sign[0] == "text":
                        self.assertIn(sign[1], machine[1] + (other_text(machine),))

    def test_results(self):
        for machine in some_machines(100, 103):
            told = results(machine)
            self.assertTuples(told)
            self.assertEqual([state for state, _ in told], list(inner_reached(machine)))
            least = dict(told)
            for state, signs in told:
                (node,) = nodes_of(signs)
                self.assertEqual(plain_signs((node,)), signs)
                kind = machine[0].index(node[1]) if node[1] in machine[0] else len(machine[0])
                self.assertEqual(led(machine, True, machine[3][1][kind], node[2]), state)
                self.assertEqual(element_to(machine, state), signs)
            above = set()
            for document in DOCUMENTS:
                above.add(led(machine, False, machine[2][1], document))
                for start in machine[3][1]:
                    state = led(machine, True, start, document)
                    self.assertLessEqual(len(least[state]), len(plain_signs(document)) + 2)
            self.assertLessEqual(above, set(top_reached(machine)))
            by_maps = {made[machine[2][1]] for made, _ in top_maps(machine)}
            self.assertEqual(tuple(sorted(by_maps)), top_reached(machine))
            by_maps = {made[start] for made, _ in inner_maps(machine) for start in machine[3][1]}
            self.assertEqual(tuple(sorted(by_maps)), inner_reached(machine))

    def test_forests(self):
        for machine in some_machines(40, 104):
            for maps, forest in ((inner_maps, inner_forest), (top_maps, top_forest)):
                told = dict(maps(machine))
                for made, signs in told.items():
                    self.assertEqual(forest(machine, made), signs)
                    self.assertEqual(forest(as_lists(machine), list(made)), signs)
                many = len(next(iter(told)))
                for state in range(many):
                    made = (state,) * many
                    if made not in told:
                        self.assertFails(Refused, made, forest, machine, made)

    def test_wrong(self):
        for call in (inner_maps, top_maps, results, inner_reached, top_reached):
            self.assertMachineFirst(call)
        for call in (inner_forest, top_forest, element_to):
            self.assertMachineFirst(lambda value: call(value, None))
        for call in (inner_forest, top_forest):
            for made in ((0,), (0, 1, 0), (False, True), (0, 2), (0, -1), (0, 0), None, 3, "01", (0, None), ()):
                self.assertFails(Refused, made, call, TURN, made)
            for value in ANY_VALUES:
                self.assertOnly((Refused,), call, TURN, value)
        lost = HAS[:3] + ((2, (1, 1), ((0, 1),), ((0, 1), (1, 1))),)
        self.assertEqual(inner_reached(lost), (1,))
        for state in (0, 2, -1, True, None, "1", (1,), 10 ** 30):
            self.assertFails(Refused, state, element_to, lost, state)
        for value in ANY_VALUES:
            self.assertOnly((Refused,), element_to, lost, value)

    def test_great(self):
        # Three maps that make all 256 maps of four states.
        turn, change, fall = (1, 2, 3, 0), (1, 0, 2, 3), (0, 0, 2, 3)
        maps = (turn, change, fall)
        machine = ((), ("", "a"), (4, 0, maps, (turn,) * 4, ((True,),) * 4), (4, (0,), maps, (turn, change, fall, turn)))
        self.assertEqual(len(self.assertWithin(5, inner_maps, machine)), 256)
        self.assertEqual(len(self.assertWithin(5, top_maps, machine)), 256)
        self.assertEqual(dict(top_maps(machine))[(1, 2, 3, 0)], (("text", ""),))
        chance = seeded(105)
        six, four = ("a", "b", "c", "d", "e", "f"), ("", "a", "b", "c")
        for _ in range(5):
            machine = some_machine(chance, six, four, 4, 4, 8)
            for call in (inner_maps, top_maps, results):
                self.assertWithin(5, call, machine)


if __name__ == "__main__":
    unittest.main()

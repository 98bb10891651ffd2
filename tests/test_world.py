"""[67], [69]: a stream that is being read, in signs and pieces, and edited."""

import unittest

from stillopen.documents import document_of
from stillopen.errors import BadQuestion, BadSign, BadStream, NoFact, Refused
from stillopen.facts import meanings
from stillopen.keeper import Keeper
from stillopen.leaststacks import kind
from stillopen.picture import machine_for, picture
from stillopen.streams import closing, depth
from stillopen.sure import earliest
from stillopen.world import World
from given import ANY_VALUES, QUESTION, Case, as_lists, seeded, some_prefix, some_questions

OPEN, CLOSE, TEXT = ("open", "a"), ("close",), ("text", "x")


def state_of(world):
    """All that a world has."""
    return world.machine, world.signs, world.keeper.stack, world.keeper.depth(), world.first


class Worlds(Case):
    def test_told(self):
        world = World(as_lists(QUESTION), [3])
        self.assertEqual((world.machine, world.signs, world.first), (machine_for(QUESTION, (3,)), (), None))
        self.assertIsInstance(world.keeper, Keeper)
        self.assertEqual(world.tells()[0], "open")
        self.assertEqual(world.read(["open", "a"])[0], "open")
        self.assertEqual(world.signs, (OPEN,))
        self.assertTuples(world.signs)
        self.assertEqual(world.read_piece([["text", "x"], ["close"]]), ("sure", (True,)))
        self.assertEqual((world.first, world.ends(), world.signs), ((3, (True,)), (True,), (OPEN, TEXT, CLOSE)))
        self.assertTuples(world.signs)
        # Behind an edit it is looked behind each sign.
        self.assertEqual(world.edit(3, 3, ()), ("sure", (True,)))
        self.assertEqual(world.first, (2, (True,)))
        self.assertEqual(world.edit(0, 3, [])[0], "open")
        self.assertEqual((world.first, world.signs, world.ends()), (None, (), (False,)))

    def test_sure_of_old(self):
        world = World((("label", "a"), ("not", 0), ("or", 0, 1)), (2,))
        self.assertEqual((world.first, world.tells()), ((0, (True,)), ("sure", (True,))))
        world.read(OPEN)
        self.assertEqual(world.first, (0, (True,)))
        world.edit(0, 1, (TEXT,))
        self.assertEqual(world.first, (0, (True,)))

    def check_all(self, question, asked, world, signs, first):
        """What is told is as of these signs, read anew; first is when it was seen to be sure."""
        machine = machine_for(question, asked)
        self.assertEqual(world.signs, signs)
        self.assertEqual(world.machine, machine)
        self.assertEqual(world.keeper.stack, kind(machine, signs))
        told = world.tells()
        self.assertTuples(told)
        wanted = picture(machine, signs)[2:]
        self.assertEqual(told[0], wanted[0])
        if told[0] == "sure":
            self.assertEqual(told, wanted)
        else:
            for (word, ending), (other, least_one) in zip(told[1:], wanted[1:]):
                self.assertEqual((word, len(ending)), (other, len(least_one)))
                self.assertEqual(meanings(question, asked, document_of(signs + ending)), word)
        level = depth(signs)
        if level == 0:
            self.assertEqual(world.ends(), meanings(question, asked, document_of(signs)))
        else:
            self.assertFails(BadStream, len(signs), world.ends)
        self.assertEqual(world.first, first)
        self.assertEqual(world.first is None, told[0] == "open")
        if world.first is not None:
            self.assertEqual(world.first[1], told[1])
            self.assertEqual(meanings(question, asked, document_of(signs + closing(level))), told[1])

    def test_read_in_any_way(self):
        chance = seeded(461)
        ways = {"sure": 0, "open": 0}
        for question, asked, machine in some_questions(60, 462):
            world = World(question, asked)
            signs, first = (), earliest(machine, ())
            for _ in range(12):
                way = chance.choice(("read", "read", "piece", "edit"))
                if way == "read":
                    sign = chance.choice((OPEN, ("open", "b"), ("text", "t"), TEXT, CLOSE, CLOSE))
                    if sign == CLOSE and depth(signs) == 0:
                        self.assertFails(BadSign, 0, world.read, sign)
                        continue
                    signs += (sign,)
                    told = world.read(sign)
                    first = first or earliest(machine, signs)
                elif way == "piece":
                    news = some_prefix(chance, chance.randint(0, 5), ("a", "b"), ("t", "x"))
                    news = (CLOSE,) * chance.randint(0, depth(signs)) + news
                    signs += news
                    told = world.read_piece(as_lists(news))
                    known = earliest(machine, signs)
                    first = first or (known and (len(signs), known[1]))
                else:
                    at = chance.choice((0, len(signs), chance.randint(0, len(signs))))
                    behind = chance.choice((at, len(signs), chance.randint(at, len(signs))))
                    news = some_prefix(chance, chance.randint(0, 3), ("a", "b"), ("t", "x"))
                    new_signs = signs[:at] + news + signs[behind:]
                    try:
                        depth(new_signs)
                    except BadStream as error:
                        kept = state_of(world)
                        self.assertFails(BadStream, error.at, world.edit, at, behind, news)
                        self.assertEqual(state_of(world), kept)
                        continue
                    signs = new_signs
                    told = world.edit(at, behind, as_lists(news))
                    first = earliest(machine, signs)
                self.assertEqual(told, world.tells())
                ways[told[0]] += 1
                self.check_all(question, asked, world, signs, first)
        self.assertGreater(min(ways.values()), 50)

    def test_wrong_questions(self):
        for at, value in ((-1, None), (0, ((),))):
            self.assertFails(BadQuestion, at, World, value, None)
        for asked in (None, (), "0"):
            self.assertFails(Refused, asked, World, QUESTION, asked)
        self.assertFails(NoFact, 4, World, QUESTION, (4,))
        for value in ANY_VALUES:
            self.assertOnly((BadQuestion, Refused, NoFact), World, value, value)

    def test_what_is_refused_changes_nothing(self):
        world = World(QUESTION, (3,))
        world.read(OPEN)
        world.read(TEXT)
        kept = state_of(world)
        for at, sign in ((-1, None), (1, ("open", "A")), (1, ("text", 3)), (-1, ("close", 1)), (-1, [])):
            self.assertFails(BadSign, at, world.read, sign)
            self.assertFails(BadStream, 3, world.read_piece, (CLOSE, sign))
            self.assertFails(BadStream, 1, world.edit, 1, 2, (sign,))
        self.assertFails(BadStream, 3, world.read_piece, (CLOSE, CLOSE))
        self.assertFails(BadStream, 1, world.edit, 0, 2, (TEXT, CLOSE))
        # What stands behind could not stand then.
        world.read(CLOSE)
        self.assertFails(BadStream, 1, world.edit, 0, 1, ())
        world.edit(2, 3, ())
        for signs in (None, 3, "close", True):
            self.assertFails(Refused, signs, world.read_piece, signs)
            self.assertFails(Refused, signs, world.edit, 0, 0, signs)
        for first in (-1, 3, True, None, "0"):
            self.assertFails(Refused, first, world.edit, first, None, None)
        for behind in (-1, 0, 3, True, None, "1"):
            self.assertFails(Refused, behind, world.edit, 1, behind, None)
        self.assertEqual(state_of(world), kept)
        self.assertFails(BadStream, 2, world.ends)
        world.read(CLOSE)
        self.assertFails(BadSign, 0, world.read, CLOSE)
        for value in ANY_VALUES:
            world = World(QUESTION, (3,))
            self.assertOnly((BadSign,), world.read, value)
            self.assertOnly((Refused, BadStream), world.read_piece, value)
            self.assertOnly((Refused, BadStream), world.edit, value, value, value)
            self.assertOnly((Refused, BadStream), world.edit, 0, 0, value)

    def test_worlds_do_not_share(self):
        one, other = World(QUESTION, (3,)), World(QUESTION, (3,))
        signs = [OPEN, TEXT]
        one.read_piece(signs)
        signs.append(None)
        self.assertEqual((one.signs, other.signs, other.first, other.keeper.depth()), ((OPEN, TEXT), (), None, 0))

    def test_great(self):
        chance = seeded(463)
        great = [told for told in some_questions(60, 464) if told[2][3][0] >= 4 and told[2][2][0] >= 3]
        for question, asked, _ in great[:10]:
            self.assertWithin(10, self.read_much, chance, question, asked)

    def read_much(self, chance, question, asked):
        """Reads sixty signs of depth 4, and edits them."""
        world = World(question, asked)
        while len(world.signs) < 60:
            level = world.keeper.depth()
            world.read(chance.choice([TEXT] + [("open", "b"), OPEN] * (level < 4) + [CLOSE] * (level > 0)))
        for at in (0, 30, 60):
            world.edit(at, at, (OPEN, ("text", "t"), CLOSE))


if __name__ == "__main__":
    unittest.main()

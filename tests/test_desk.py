"""[70] to [72]: a desk, which answers lines about a stream."""

import unittest

from stillopen.counts import counts_to, stack_machine
from stillopen.desk import Desk
from stillopen.documents import document_of, from_text, markup, read_markup
from stillopen.errors import BadStream, BadText, Refused, TooGreat
from stillopen.growth import bits
from stillopen.leastmachines import least_machine
from stillopen.machines import answer
from stillopen.paths import path_holds, path_text, read_path
from stillopen.several import earliest_parts, sure_parts
from stillopen.skipped import idle_level
from stillopen.stacks import stack_of
from stillopen.streams import depth, open_labels
from stillopen.world import World
from given import ANY_VALUES, Case, seeded, some_expression, some_prefix

WORDS = {True: "yes", False: "no", None: "open"}
PATHS = ("/a", "//a//b", "//a/b", '/"t"', "//a/#", "not //b", "(/a or /b)", "/*+b", "//b$", '/a[not /"t"]', "/*", "//*")


def some_paths(chance):
    """The texts of one to three questions."""
    paths = [chance.choice(PATHS) for _ in range(chance.randint(1, 3))]
    if chance.random() < 0.3:
        paths[0] = path_text(some_expression(chance, 1, 2))
    return tuple(paths)


def some_desk(chance):
    """A desk whose machine is no greater than desks have to be."""
    while True:
        paths = some_paths(chance)
        try:
            desk = Desk(paths)
        except TooGreat:
            continue
        if desk.world.machine[3][0] <= 4 and desk.world.machine[2][0] <= 9:
            return paths, desk


class Desks(Case):
    def test_told(self):
        desk = Desk(["//a/b", '/"t"'])
        self.assertIsInstance(desk.world, World)
        self.assertEqual(desk.world.signs, ())
        self.assertEqual([desk.say(line) for line in ("told", "first", "end", "depth", "kept", "idle")],
                         ["open open", "- -", "no no", "0", "0", "-"])
        self.assertEqual(desk.say('read <a>"t"'), "open open")
        self.assertEqual(desk.say("read </a>\"t\""), "open yes")
        self.assertEqual(desk.say("first"), "- 4")
        self.assertEqual(desk.say("kept"), " ".join(str(state) for state in desk.world.keeper.stack))

    def test_questions_mean_the_texts(self):
        chance = seeded(471)
        for _ in range(60):
            paths, desk = some_desk(chance)
            self.assertEqual(desk.world.machine, least_machine(desk.world.machine))
            for _ in range(10):
                prefix = some_prefix(chance, chance.randint(0, 8), ("a", "b"), ("t", "u"))
                document = document_of(prefix + (("close",),) * depth(prefix))
                self.assertEqual(answer(desk.world.machine, document),
                                 tuple(path_holds(read_path(path), document) for path in paths))
        self.assertEqual(Desk(["/a"] * 8).say("end"), " ".join(["no"] * 8))
        # Texts that ask for no label and no text, alone, and beside all the labels that there can be.
        self.assertEqual([Desk(["/*"]).say("end"), Desk(["not /*"]).say("end")], ["no", "yes"])
        desk = Desk(["/*", "/^b", "/^c", "/^d", "/^e", "/^f", "/^g"])
        self.assertEqual((desk.say("read <g></g>"), desk.world.machine[0]), ("yes no no no no no yes", tuple("bcdefg")))

    def test_refused(self):
        for paths in (None, "/a", (), ["/a"] * 9, ("/a", None), [3], ["/a", ["/a"]], 3, {"/a": 1}):
            self.assertFails(Refused, paths, Desk, paths)
        # Strings are looked at ahead of texts, texts ahead of names.
        self.assertFails(Refused, ("/", 3), Desk, ("/", 3))
        many = ["/a", "/b", "/c", "/d", "/e", "/f", "/g"]
        self.assertFails(BadText, 1, Desk, many[:-1] + ["/"])
        for at, paths in ((0, ("",)), (2, ("/a", "/a ")), (1, ("/a", "/A", "")), (3, ('/"t',))):
            self.assertFails(BadText, at, Desk, paths)
        self.assertFails(Refused, many, Desk, many)
        self.assertFails(Refused, ["/a[/b][/c][/d]/e/f+g"], Desk, ["/a[/b][/c][/d]/e/f+g"])
        texts = ['(/"a" or /"b")', '/a/"c"', '/"d"', '//"e"']
        self.assertFails(Refused, texts, Desk, texts)
        # Just six labels, and four texts, and any text besides.
        self.assertEqual(Desk(["/^a", "/^b", "/^c", "/^d", "/^e", "/^f"]).say("end"), "no no no no no no")
        self.assertEqual(Desk(texts[:3] + ["/#"]).say("end"), "no no no no")
        great = ["/a{3}", "/b{3}", "/c{3}", "/d{3}", "/e{3}"]
        self.assertFails(TooGreat, 200, Desk, great)
        for value in ANY_VALUES:
            self.assertOnly((Refused, BadText), Desk, value)
            self.assertOnly((Refused, BadText), Desk, [value])

    def test_forms(self):
        desk = Desk(["/a", "//b"])
        desk.say("read <a><b>")
        for line in ("told", "first", "end", "depth", "kept", "idle", "bits", "read ", "edit 0 0", "edit 0 0 ", "ending 0 yes",
                     "ending 0 no", "kinds 0", "kinds 3", "edit 2 2 \"a b\"", "ending 999999 yes", "edit 999999 999999",
                     "edit 0 999999 x", "read x", "edit 0 0 x"):
            self.assertIsInstance(desk.say(line), str)
        signs = desk.world.signs
        for line in ("", " ", "told ", " told", "Told", "told told", "first 0", "read", "Read ", "reads ", " read <a>",
                     "edit", "edit ", "edit 0", "edit 0 ", "edit  0 0", "edit 0  0", "edit 00 0", "edit 0 01", "edit -1 0",
                     "edit +0 0", "edit 0 a", "edit a 0", "edit 0 0<a>", "edit 1000000 0", "edit 0 1000000", "ending",
                     "ending 0", "ending 0 ", "ending 0 Yes", "ending 0 maybe", "ending 0 yes ", "ending yes 0",
                     "ending 0 yes no", "ending 00 yes", "ending  0 yes", "ending \u0661 yes", "ending 1000000 yes", "kinds",
                     "kinds ", "kinds 01", "kinds 1000000", "kinds -1", "kinds 1 ", "kinds 1 2", "kinds a", "kinds \u00b2",
                     "kinds 0x1", "kinds 1_0", "bits ", "depth\n", "told\n", "idle 1", "kept 0", "end ", "quit"):
            self.assertFails(BadText, 0, desk.say, line)
        for value in ANY_VALUES:
            if not isinstance(value, str) or not value.startswith("read"):
                self.assertFails(BadText, 0, desk.say, value)
        self.assertFails(BadText, 0, desk.say, ["told"])
        self.assertEqual(desk.world.signs, signs)


class Streams(Case):
    def test_bad_markup(self):
        desk = Desk(["/a"])
        desk.say("read <a>")
        for line, at in (("x", 0), ("<", 1), ("<a", 2), ("<A>", 1), ("<>", 1), ("</", 2), ("</b>", 2), ("</a", 3),
                         ("</a></", 5), ("</a></a>", 5), ("</a>\"", 5), ('"', 1), ('"\\x"', 2), ('"t" ', 3), (" ", 0),
                         ("<b></a>", 5), ("<abcdefghijklm>", 13), ("<b>" * 3 + "x", 9), ("</a>x</", 4)):
            self.assertEqual(desk.say("read " + line), f"bad {at}", line)
            self.assertEqual(desk.say("edit 1 1 " + line), f"bad {at}", line)
            self.assertEqual(desk.world.signs, (("open", "a"),))
        # Behind the first sign alone no level of it is open.
        self.assertEqual([desk.say("edit 0 0 </a>"), desk.say("edit 0 1 </a>")], ["bad 1", "bad 1"])
        self.assertEqual(desk.say("edit 0 1 <b></a>"), "bad 5")

    def test_edits(self):
        desk = Desk(["/a", '//"t"'])
        desk.say('read <a><b>"t"</b>')
        signs = desk.world.signs
        for line in ("edit 5 5", "edit 1 0", "edit 0 5", "edit 5 5 x", "edit 2 1 x", "edit 0 2 \"u\"", "edit 1 2 </a>",
                     "edit 999999 999999", "edit 0 999999"):
            self.assertEqual(desk.say(line), "refused", line)
            self.assertEqual(desk.world.signs, signs)
        # Closings have no labels: what stands behind can close other ones.
        self.assertEqual(desk.say("edit 0 1 <c>"), "open yes")
        self.assertEqual(markup(desk.world.signs), '<c><b>"t"</b>')
        self.assertEqual(desk.say("edit 2 3"), "open open")
        self.assertEqual(desk.say("edit 2 2 "), "open open")
        self.assertEqual(desk.say('edit 2 2 "a b"<b></b>'), "open open")
        self.assertEqual(markup(desk.world.signs), '<c><b>"a b"<b></b></b>')
        self.assertEqual([desk.say("edit 0 6"), desk.say("depth"), desk.say("end")], ["open open", "0", "no no"])
        self.assertEqual(desk.say("read "), "open open")

    def test_refused_changes_nothing(self):
        desk = Desk(["//a//b"])
        desk.say("read <a>")
        for line in ("end", "ending 1 yes", "ending 999999 no", "edit 2 2", "edit 0 1 </"):
            self.assertIn(desk.say(line), ("refused", "bad 1"))
        self.assertEqual((desk.world.signs, desk.say("depth"), desk.say("told")), ((("open", "a"),), "1", "open"))


class Asked(Case):
    def test_told(self):
        desk = Desk(["//a/b", '/"t"'])
        self.assertEqual([desk.say(line) for line in ("ending 0 no", "ending 1 no")], [".", "."])
        self.assertEqual(read_markup(desk.say("ending 1 yes"))[0], (("text", "t"),))
        desk.say("read \"t\"<a>")
        self.assertEqual([desk.say(line) for line in ("ending 0 yes", "ending 0 no", "ending 1 no", "ending 2 yes", "end")],
                         ["<b></b></a>", "</a>", "-", "refused", "refused"])
        desk.say("read <b></b></a>")
        self.assertEqual([desk.say(line) for line in ("ending 0 yes", "ending 0 no", "end", "told", "first")],
                         [".", "-", "yes yes", "yes yes", "3 1"])

    def test_kinds(self):
        wanted = {"/a": ("2 2 2 2", "bounded"), "//a//b": ("2 3 4 5", "logarithm"), "//a/b": ("2 3 5 9", "depth"),
                  "/a/b": ("2 3 3 3", "bounded"), "//a/#": ("2 3 5 9", "depth")}
        for path, (kinds, grown) in wanted.items():
            desk = Desk([path])
            self.assertEqual((desk.say("kinds 3"), desk.say("bits"), desk.say("kinds 0")), (kinds, grown, kinds[:1]))
            machine = desk.world.machine
            self.assertEqual(desk.say("kinds 40"), " ".join(str(many) for many in counts_to(machine, 40, most=400)))
            self.assertEqual(desk.say("bits"), bits(stack_machine(machine, most=400)))
            # It hangs on the questions alone.
            desk.say("read <a><b>")
            self.assertEqual((desk.say("kinds 3"), desk.say("bits")), (kinds, grown))

    def test_depths_as_great_as_a_line_can_name(self):
        told = self.assertWithin(20, Desk(["/a/b"]).say, "kinds 999999").split(" ")
        self.assertEqual((len(told), told[:2], set(told[1:])), (10 ** 6, ["2", "3"], {"3"}))
        # Numbers of more figures than Python writes at once.
        told = self.assertWithin(60, Desk(["//a/b"]).say, "kinds 14400").split(" ")
        self.assertEqual(len(told), 14401)
        number = 0
        for at in range(0, len(told[-1]), 1000):
            figures = told[-1][at:at + 1000]
            number = number * 10 ** len(figures) + int(figures)
        self.assertEqual(number, 2 ** 14400 + 1)

    def test_too_great(self):
        # Whether a machine of least stacks has more than 400 states, or not: it is refused, or told rightly.
        refused = 0
        for paths in (["//a[not //b+*]"], ["//*[/a~b]"], ["//a[/b][/c]"], ["//a$/b"], ["//a/b", "//b/a"]):
            try:
                desk = Desk(paths)
            except TooGreat:
                continue
            told = desk.say("kinds 2")
            self.assertEqual([line == "refused" for line in (desk.say("bits"), desk.say("kinds 0"))],
                             [told == "refused"] * 2)
            refused += told == "refused"
            try:
                wanted = " ".join(str(many) for many in counts_to(desk.world.machine, 2, most=400))
            except TooGreat:
                wanted = "refused"
            self.assertEqual(told, wanted)
        self.assertIn(refused, range(1, 5))

    def check_all(self, desk, paths, signs):
        """All that the desk says is told anew by what was read."""
        machine = desk.world.machine
        stack = stack_of(machine, signs)
        self.assertEqual(desk.world.signs, signs)
        sure = sure_parts(machine, stack)
        self.assertEqual(desk.say("told"), " ".join(WORDS[word] for word in sure))
        known = earliest_parts(machine, signs)
        self.assertEqual(desk.say("first"), " ".join("-" if one is None else str(one[0]) for one in known))
        self.assertEqual(desk.say("depth"), str(depth(signs)))
        level = idle_level(machine, stack)
        self.assertEqual(desk.say("idle"), "-" if level is None else str(level))
        if depth(signs) > 0:
            self.assertEqual(desk.say("end"), "refused")
        else:
            document = document_of(signs)
            wanted = [WORDS[path_holds(read_path(path), document)] for path in paths]
            self.assertEqual(desk.say("end"), " ".join(wanted))
        for place, path in enumerate(paths):
            for word in (True, False):
                told = desk.say(f"ending {place} {WORDS[word]}")
                self.assertEqual(told == "-", sure[place] is (not word))
                if told != "-":
                    whole = markup(signs) + ("" if told == "." else told)
                    self.assertIs(path_holds(read_path(path), from_text(whole)), word)

    def test_read_in_any_way(self):
        chance = seeded(472)
        for _ in range(40):
            paths, desk = some_desk(chance)
            signs = ()
            for _ in range(10):
                news = some_prefix(chance, chance.choice((0, 1, 1, 2, 4)), ("a", "b"), ("t", 'u "\\'))
                at = chance.choice((len(signs), len(signs), chance.randint(0, len(signs))))
                behind = chance.choice((at, len(signs), chance.randint(at, len(signs))))
                closes = chance.randint(0, depth(signs[:at]))
                text = markup(signs[:at] + (("close",),) * closes + news)[len(markup(signs[:at])):]
                news = (("close",),) * closes + news
                is_read = at == len(signs) and chance.random() < 0.7
                line = "read " + text if is_read else f"edit {at} {behind} {text}"
                if not is_read and text == "" and chance.random() < 0.5:
                    line = line[:-1]
                try:
                    depth(signs[:at] + news + signs[behind:])
                except BadStream:
                    self.assertEqual(desk.say(line), "refused")
                    continue
                signs = signs[:at] + news + signs[behind:]
                told = desk.say(line)
                self.assertEqual(told, desk.say("told"))
                self.check_all(desk, paths, signs)
            fresh = Desk(paths)
            for at in range(len(signs)):
                fresh.say("read " + markup(signs[:at + 1])[len(markup(signs[:at])):])
            for line in ("told", "first", "end", "depth", "kept", "idle"):
                self.assertEqual(fresh.say(line), desk.say(line))
            self.assertEqual(open_labels(fresh.world.signs), open_labels(signs))

    def test_great(self):
        chance = seeded(473)
        for paths in (["//a//b", "//b//a"], ['//a/"t"'], ["/a~b", "/b~a"], ["//a[not /b]"], ["not //a/b"],
                      ["(//a and //b)", "/#", "/a$"]):
            desk = self.assertWithin(10, Desk, paths)
            self.assertWithin(20, self.say_much, desk, chance)
            if desk.world.machine[2][0] <= 3:
                self.assertWithin(10, desk.say, "kinds 6")
                self.assertWithin(10, desk.say, "bits")
        for path in ("/a" * 30, "//a" * 6 + "/b" * 20, "/*" + "[/a]" * 12):
            self.assertOnly((TooGreat,), self.assertWithin, 10, Desk, [path])

    def say_much(self, desk, chance):
        """Sixty lines, of a stream of at most sixty signs."""
        for _ in range(60):
            level = depth(desk.world.signs)
            lines = ["told", "first", "end", "depth", "kept", "idle", "ending 0 yes", "ending 0 no", 'edit 0 0 "t"']
            if level < 6 and len(desk.world.signs) < 50:
                lines += ["read <a>", "read <b>", "read <b>"] * 3
            if level > 0:
                lines += [f"read </{open_labels(desk.world.signs)[-1]}>"] * 4
            self.assertNotIn("bad", desk.say(chance.choice(lines)))


if __name__ == "__main__":
    unittest.main()

"""[12], [13], [14]: expressions, their texts, their questions."""

import unittest

from stillopen.errors import BadForm, BadText, Refused
from stillopen.facts import check_question, meaning
from stillopen.paths import check_expression, path_holds, path_text, question_of, read_path
from given import ANY_VALUES, Case, as_lists, seeded, some_document, some_expression

OF_EXPRESSIONS = (check_expression, path_text, question_of, lambda value: path_holds(value, None))
ANY = (None, ())
TEXT = ("path", (("/", "text", None),))


def el(label, *row):
    return ("element", label, row)


def so(expression, row):
    """Whether an expression is so of a row, told by recursion straight from [12]."""
    if expression[0] == "not":
        return not so(expression[1], row)
    if expression[0] != "path":
        return {"and": all, "or": any}[expression[0]]([so(part, row) for part in expression[1:]])
    return leads(expression[1], row)


def leads(steps, row):
    if not steps:
        return True
    return any(leads_here(steps, one) for one in ([row] if steps[0][0] == "/" else rows_in(row)))


def rows_in(row):
    return [row] + [one for part in row if part[0] == "element" for one in rows_in(part[2])]


def leads_here(steps, row):
    step = steps[0]
    if len(step) == 3:
        return any(part[0] == "text" and step[2] in (None, part[1]) for part in row)
    _, form, test, other = step
    inner = [part for part in row if part[0] == "element"]
    passed = [passes(test, part) for part in inner]
    goes = [passes(other or test, part) and leads(steps[1:], part[2]) for part in inner]
    if form == "next":
        return any(one and behind for one, behind in zip(passed, goes[1:]))
    if form == "later":
        return any(one and any(goes[at + 1:]) for at, one in enumerate(passed))
    if form in ("first", "last"):
        return bool(goes) and goes[0 if form == "first" else -1]
    return sum(goes) >= form


def passes(test, part):
    return test[0] in (None, part[1]) and all(so(one, part[2]) for one in test[1])


class Grammar:
    """An account of its own of [13]: rows of what is still to come behind a text, each a row of rules and signs."""

    def __init__(self):
        self.kept = {}

    def rules(self, name):
        """What can stand in the place of a rule; ends of texts have no rule."""
        word, n = name
        if word == "E":
            out = [(("P", n),)]
            if n < 12:
                out += [("not ", ("E", n + 1)), ("(", ("E", n + 1), " and ", ("E", n + 1), ")"),
                        ("(", ("E", n + 1), " or ", ("E", n + 1), ")")]
            return out
        if word == "P":
            more = [(), (("P", n),)]
            out = [(axis, end) for axis in ("/", "//") for end in ("#", ('"', 0))]
            for axis in ("/", "//"):
                for step in (("^", ("T", n)), (("T", n),), (("T", n), "$"), (("T", n), "+", ("T", n)),
                             (("T", n), "~", ("T", n)), (("T", n), "{2}"), (("T", n), "{3}")):
                    if axis == "/" or step[-1] not in ("{2}", "{3}"):
                        out += [(axis,) + step + behind for behind in more]
            return out
        if word == "T":
            return [("*", ("F", n)), (("L", 12), ("F", n))]
        if word == "F":
            return [()] + ([("[", ("E", n + 1), "]", ("F", n))] if n < 12 else [])
        if word == "L":
            return [("a-z",), ("a-z", ("L", n - 1))] if n > 1 else [("a-z",)]
        return [('"', ("S", 0))] if word == '"' else [('"',), ("not quote", ("S", 0))]

    def open_out(self, rest):
        """The same with a sign in front, or empty."""
        todo, found = [rest], set()
        while todo:
            one = todo.pop()
            if one and isinstance(one[0], tuple):
                todo += [rule + one[1:] for rule in self.rules(one[0])]
            elif one not in found:
                found.add(one)
        return found

    def rests(self, text):
        """All rests behind a text; none if nothing can go on with it; () is among them if it is whole."""
        if text == "":
            return self.open_out((("E", 0),))
        if text not in self.kept:
            found = set()
            for one in self.rests(text[:-1]):
                if not one:
                    continue
                first, behind = one[0], one[1:]
                if first == "a-z":
                    fits, rest = "a" <= text[-1] <= "z", behind
                elif first == "not quote":
                    fits, rest = text[-1] != '"', behind
                else:
                    fits, rest = first[0] == text[-1], ((first[1:],) if first[1:] else ()) + behind
                if fits:
                    found |= self.open_out(rest)
            self.kept[text] = found
        return self.kept[text]


class Expressions(Case):
    def good(self):
        yield from (TEXT, ("path", (("//", "text", ""),)), ("path", (("/", "text", "a\\\u00e9'"),)))
        for form in (1, 2, 3, "first", "last"):
            yield ("path", (("/", form, ANY, None),))
        for form in (1, "first", "last"):
            yield ("path", (("//", form, ("a", ()), None),))
        for form in ("next", "later"):
            for axis in ("/", "//"):
                yield ("path", ((axis, form, ("a", (TEXT,)), (None, (TEXT, ("not", TEXT)))), ("/", "text", "t")))
        yield ("not", TEXT)
        yield ("and", TEXT, ("or", TEXT, TEXT))
        yield ("path", (("/", 1, ANY, None),) * 30)

    def test_good(self):
        for expression in self.good():
            self.assertEqual(check_expression(expression), expression)
            self.assertEqual(check_expression(as_lists(expression)), expression)
            self.assertTuples(check_expression(as_lists(expression)))
            self.assertEqual(read_path(path_text(as_lists(expression))), expression)

    def test_wrong(self):
        step = ("/", 1, ANY, None)
        steps = [(), None, "steps", (step, None), (("/", "text", None), step), (("/", "text", None),) * 2, ((),), (step[:2],),
                 (step + (None,),), (("", 1, ANY, None),), (("///", 1, ANY, None),), ((None, 1, ANY, None),),
                 (("/", 0, ANY, None),), (("/", 4, ANY, None),), (("/", True, ANY, None),), (("/", "1", ANY, None),),
                 (("//", 2, ANY, None),), (("//", 3, ANY, None),), (("/", "second", ANY, None),), (("/", None, ANY, None),),
                 (("/", 1, ANY, ANY),), (("/", 2, ANY, ANY),), (("/", "first", ANY, ANY),), (("/", "last", ANY, ANY),),
                 (("/", "next", ANY, None),), (("/", "later", ANY, None),), (("/", "text", ANY, None),),
                 (("/", "text", 'a"b'),), (("/", "text", 5),), (("/", "text", "x" * 65536),), (("/", 1, "t"),),
                 (("//", "#", None),), ((["/"], "text", None),), (("/", ["text"], None),), (("/", "text", ["t"]),)]
        for test in (None, (), ("a",), ("A", ()), ("", ()), ("a" * 13, ()), ("a", None), ("a", "b"), ("a", (), ()), (1, ()),
                     (True, ()), ("a", (None,)), ("a", ("path",)), ("a", (("path", ()),)), ("a", (TEXT, ("path", (None,))))):
            steps += [(("/", 1, test, None),), (("/", "next", test, ANY),), (("//", "later", ANY, test),),
                      (step, ("/", "last", test, None))]
        wrong = [("path", one) for one in steps] + [("path",), ("path", (step,), None), ("path", step)]
        wrong += [None, 3, "path", True, (), ("not",), ("not", TEXT, TEXT), ("and", TEXT), ("or", TEXT), ("and",),
                  ("and", TEXT, TEXT, TEXT), ("or", TEXT, None), ("and", None, TEXT), ("Not", TEXT), (None, TEXT), (["not"], TEXT),
                  ("xor", TEXT, TEXT), ("text", None), (("not", TEXT),)]
        for value in wrong:
            for around in (value, ("not", value), ["or", TEXT, value], ("path", (("/", 1, ("a", (value,)), None),))):
                for call in OF_EXPRESSIONS:
                    self.assertFails(Refused, around, call, around)

    def test_around(self):
        for wrap in (lambda one: ("not", one), lambda one: ("and", TEXT, one), lambda one: ["or", one, TEXT],
                     lambda one: ("path", (("/", 1, ("a", (one,)), None),)),
                     lambda one: ("path", [("//", "next", ANY, ("a", [TEXT, one]))])):
            expression = TEXT
            for _ in range(12):
                expression = wrap(expression)
            check_expression(expression)
            self.assertEqual(as_lists(read_path(path_text(expression))), as_lists(expression))
            check_question(question_of(expression))
            path_holds(expression, ())
            for call in OF_EXPRESSIONS:
                self.assertFails(Refused, wrap(expression), call, wrap(expression))

    def test_any_value(self):
        for value in ANY_VALUES:
            for call in (check_expression, path_text, question_of):
                self.assertTuples(self.assertOnly((Refused,), call, value))
            self.assertOnly((Refused, BadForm), path_holds, value, value)
            self.assertOnly((BadForm,), path_holds, TEXT, value)
            self.assertTuples(self.assertOnly((BadText,), read_path, value))
        self.assertFails(BadForm, 1, path_holds, TEXT, (el("a", None),))
        self.assertFails(Refused, None, path_holds, None, None)


class Holds(Case):
    def test_each_form(self):
        row = (el("a", ("text", "t")), ("text", "u"), el("b", el("a"), el("c", ("text", ""))), el("a", el("d")))
        for text, told in (("/a", 1), ("/c", 0), ("//c", 1), ("//d", 1), ("/a{2}", 1), ("/a{3}", 0), ("/*{3}", 1), ("/^a", 1),
                           ("/^b", 0), ("/a$", 1), ("/b$", 0), ("/a+b", 1), ("/b+a", 1), ("/a+a", 0), ("/a~a", 1), ("/b~b", 0),
                           ("/a+a", 0), ("/b~a/d", 1), ("/a~a/#", 0), ("/a+b/c", 1), ("/a/#", 1), ("/#", 1), ('/"u"', 1),
                           ('/"t"', 0), ('//"t"', 1), ('//""', 1), ('//"x"', 0), ("//^c", 0), ("//c$", 1), ("//a+c", 1),
                           ("//c~a", 0), ("/a[/d]", 1), ("/a[/d][/#]", 0), ("/^a[/d]", 0), ("/a[/d]$", 1), ("/b[/a+c]/c/#", 1),
                           ("/*[not /#]", 1), ("/*[not /#]{2}", 1), ("/*[not //#]{2}", 0), ("(/a and not /c)", 1),
                           ("(/c or //d)", 1), ("(/c or /d)", 0), ("/a+b[/c]", 1), ("/a[/d]+b", 0)):
            self.assertIs(path_holds(read_path(text), row), bool(told), text)
            self.assertIs(path_holds(as_lists(read_path(text)), as_lists(row)), bool(told), text)
            self.assertIs(meaning(question_of(read_path(text)), row), bool(told), text)

    def test_empty_rows(self):
        for text in ("/*", "//*", "/^*", "/*$", "/*+*", "/*~*", "/#", "//#", "/*{2}"):
            self.assertIs(path_holds(read_path(text), ()), False)
            self.assertIs(path_holds(read_path("not " + text), ()), True)
            self.assertIs(meaning(question_of(read_path(text)), ()), False)

    def test_by_recursion(self):
        chance = seeded(12)
        for _ in range(700):
            expression = some_expression(chance)
            question = question_of(as_lists(expression))
            self.assertEqual(check_question(question), question)
            for _ in range(6):
                document = some_document(chance, 9, 4, ("a", "b"), ("", "t"))
                told = so(expression, document)
                self.assertIs(path_holds(expression, document), told, path_text(expression))
                self.assertIs(meaning(question, document), told, path_text(expression))

    def test_names_of_questions(self):
        for text, labels, texts in (("/a/*", {"a"}, set()), ("//*[/b]", {"b"}, set()), ("/*/^c", {"c"}, set()), ('/*/"u"', set(), {"u"}),
                                    ("/*[not (/# or /*+d)]", {"d"}, set()), ("(/* and /e)", {"e"}, set()),
                                    ("/*~f", {"f"}, set()), ("/f~*", {"f"}, set()), ('(/* and //"t")', set(), {"t"}),
                                    ("(/a[/b]~c and (/d or not /e[/f]/*))", set("abcdef"), set())):
            question = question_of(read_path(text))
            self.assertEqual({fact[1] for fact in question if fact[0] == "label"}, labels)
            self.assertEqual({fact[1] for fact in question if fact[0] == "text"} - {None}, texts)

    def test_great(self):
        wide = tuple(el("b") if at % 2 else el("a", el("b")) for at in range(150))
        tower = ()
        for _ in range(18):
            tower = (el("a", *tower),) + (el("b", ("text", "t")),) * 7
        letters = "abcdefghijklmnopqrstuvwxyz"
        for text in ("//a//b//a//*//a//c", "//*~a//b//*~*//a+b//^b//c", "/a" * 30, "".join("/" + one for one in letters) + "/^a/a",
                     "".join("//^" + one for one in letters[:15]), "//a[//b[//a[//c]//*]//d]", "/*[/*[/*[/*]/*]/*]/*[/*{2}]{3}",
                     "(((/a and /b) or (/c and /d)) and not ((/e or /f) and /g))", '//a[//""]+b[//"x"]//c~*[not //#]',
                     "".join("//" + one for one in letters[:20]), "/a+b/c+d/e+f/g+h/i+j/k+l/m+n/o+p/q+r/s+t/u+v/w+x/y+z"):
            self.assertLess(len(text), 63)
            expression = read_path(text)
            question = self.assertWithin(2, question_of, expression)
            self.assertEqual(check_question(question), question)
            for document in (wide, tower):
                told = self.assertWithin(3, path_holds, expression, document)
                self.assertIs(self.assertWithin(3, meaning, question, document), told)
        long = '/"' + "x" * 1990 + '"'
        self.assertEqual(path_text(read_path(long)), long)
        long = "/a" * 500 + "[//b]" * 200
        self.assertEqual(self.assertWithin(3, path_text, self.assertWithin(3, read_path, long)), long)


class Texts(Case):
    def test_plain(self):
        for text in ("/a", "//*", "/#", '//"a b"', "/^a/b$", "/a{2}/b{3}/#", "//a+b", "/a[/b][not //c]~*[/#]/d", "not not /a",
                     "(/a and not (/b or //c))", "/abcdefghijkl", '/""', "/^*[/a]", "/a[/b]{2}", "/a[(/b and /c)]$"):
            expression = read_path(text)
            self.assertEqual(path_text(expression), text)
            self.assertEqual(check_expression(expression), expression)
            self.assertTuples(expression)
        self.assertEqual(read_path("/a+b[/#]"), ("path", (("/", "next", ("a", ()), ("b", (TEXT,))),)))
        self.assertEqual(read_path("//*~b"), ("path", (("//", "later", ANY, ("b", ())),)))
        self.assertEqual(read_path("/a{2}"), ("path", (("/", 2, ("a", ()), None),)))
        self.assertEqual(read_path("(not /# or /#)"), ("or", ("not", TEXT), TEXT))

    def test_wrong_values(self):
        for value in (None, 3, True, (), ["/a"], ("/a",), b"/a"):
            self.assertFails(BadText, -1, read_path, value)

    def test_first_wrong_place(self):
        for text, at in (("", 0), ("a", 0), ("/", 1), ("//", 2), ("///", 2), ("/a ", 2), ("/A", 1), ("/a{", 3), ("/a{1}", 3),
                         ("/a{2", 4), ("/a{2]", 4), ("//a{2}", 3), ("/^a$", 3), ("/^a+b", 3), ("/^a{2}", 3), ("/a$$", 3),
                         ("/a$+b", 3), ("/a+b$", 4), ("/a+^b", 3), ("/a+b+c", 4), ("/^", 2), ("/^#", 2), ('/"', 2), ('/"a', 3),
                         ("/#/a", 2), ('/"a"/a', 4), ("/#[/a]", 2), ("/a[", 3), ("/a[]", 3), ("/a[/b", 5), ("/a[/b]]", 6),
                         ("/a[/b]c", 6), ("/a/", 3), ("n", 1), ("not", 3), ("not/a", 3), ("not  /a", 4), ("nor", 2), ("(", 1),
                         ("()", 1), ("(/a", 3), ("(/a)", 3), ("(/a an", 6), ("(/a xor", 4), ("(/a orr", 6), ("(/a and/b", 7),
                         ("(/a and /b", 10), ("(/a and /b))", 11), ("(/a and /b and /c)", 10), ("/a and /b", 2), (" /a", 0),
                         ("/a\n", 2), ("/abcdefghijklm", 13), ("/*a", 2), ("/**", 2), ("/\u00e9", 1), ("/a[not ", 7), ("/a[/b{", 6),
                         ("//a[/b{4", 7), ("/a+", 3), ("/a~", 3), ("/a+*[", 5), ("not (", 5), ("(not /a ", 8), ("(/a o", 5),
                         ("(/a or /b)/c", 10), ("/a{23}", 4), ("/a{2}{2}", 5), ("/a{2}/b+c{2}", 9)):
            self.assertFails(BadText, at, read_path, text)

    def test_around(self):
        self.assertEqual(path_text(read_path("not " * 12 + "/a/b$")), "not " * 12 + "/a/b$")
        self.assertFails(BadText, 48, read_path, "not " * 13 + "/a")
        self.assertFails(BadText, 48, read_path, "not " * 12 + "(/a or /b)")
        self.assertFails(BadText, 50, read_path, "not " * 12 + "/a[/b]")
        self.assertFails(BadText, 53, read_path, "not " * 12 + "/^a/b[/c]")
        self.assertFails(BadText, 12, read_path, "(" * 13)
        self.assertFails(BadText, 12, read_path, "(" * 12)
        self.assertFails(BadText, 38, read_path, "/a[" * 12 + "/a[")
        self.assertFails(BadText, 36, read_path, "/a[" * 12 + "n")
        self.assertFails(BadText, 38, read_path, "/a[" * 12 + "/a")

    def test_long_strings(self):
        self.assertEqual(read_path('/"' + "x" * 65535 + '"')[1][0][2], "x" * 65535)
        self.assertFails(BadText, 65537, read_path, '/"' + "x" * 65535)
        self.assertFails(BadText, 65537, read_path, '/"' + "x" * 65536)
        self.assertFails(BadText, 65537, read_path, '/"' + "x" * 65536 + '"')

    def check_text(self, grammar, text):
        """What is told of this text, beside the grammar."""
        wrong = [at for at in range(len(text)) if not grammar.rests(text[:at + 1])]
        if wrong:
            self.assertFails(BadText, wrong[0], read_path, text)
        elif () in grammar.rests(text):
            self.assertEqual(path_text(read_path(text)), text)
        else:
            self.assertFails(BadText, len(text), read_path, text)

    def test_cut_and_bent(self):
        grammar = Grammar()
        for text in ("/a[/b+*]$", '(/# or not //"t")', "//*~b[/^c]/d{3}", "/ab+c/#", 'not (/a{2} and //"t")',
                     "/^a[//b$][/c]/d"):
            for cut in range(len(text) + 1):
                self.check_text(grammar, text[:cut])
                for sign in 'abnot/*#"^$[]{}23+~() dr1A':
                    self.check_text(grammar, text[:cut] + sign)
                    self.check_text(grammar, text[:cut] + sign + text[cut:])
                    self.check_text(grammar, text[:cut] + sign + text[cut + 1:])

    def test_all_short_texts(self):
        grammar = Grammar()
        texts = [""]
        for text in texts:
            self.check_text(grammar, text)
            if len(text) < 6 and grammar.rests(text):
                texts.extend(text + sign for sign in 'an/*"#^$[]{2}+~( ')

    def test_many(self):
        chance = seeded(13)
        for _ in range(500):
            expression = some_expression(chance, deep=3)
            text = path_text(expression)
            self.assertEqual(read_path(text), expression)
            self.assertEqual(path_text(read_path(text)), text)


if __name__ == "__main__":
    unittest.main()

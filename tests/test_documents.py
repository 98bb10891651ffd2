"""[8]: documents, and markup."""

import re
import unittest

from stillopen.documents import (
    check_document, count_nodes, document_of, from_text, height, markup, markup_of, read_markup, signs_of,
)
from stillopen.errors import BadForm, BadStream, BadText
from stillopen.streams import check_stream, closing, depth, open_labels
from given import ANY_VALUES, Case, as_lists, seeded, some_document, some_prefix

OF_DOCUMENTS = (check_document, count_nodes, height, signs_of, markup_of)
OF_TEXTS = (read_markup, from_text)


def node(label, *row):
    return ("element", label, row)


def nodes_in(document):
    """How many nodes there are, told by recursion."""
    return sum(1 if part[0] == "text" else 1 + nodes_in(part[2]) for part in document)


def deepest(document):
    """How many elements stand one within another, told by recursion."""
    return max([0] + [1 + deepest(part[2]) for part in document if part[0] == "element"])


class Documents(Case):
    def test_plain(self):
        document = [["text", "x"], ["element", "a", [["element", "b", []], ("text", "")]], ("element", "c", ())]
        told = (("text", "x"), node("a", node("b"), ("text", "")), node("c"))
        self.assertEqual(check_document(document), told)
        self.assertTuples(check_document(document))
        self.assertEqual(count_nodes(document), 5)
        self.assertEqual(height(document), 2)
        self.assertEqual(markup_of(document), '"x"<a><b></b>""</a><c></c>')
        self.assertEqual(check_document(()), ())
        self.assertEqual((count_nodes([]), height([]), signs_of([]), markup_of([])), (0, 0, (), ""))
        self.assertEqual((count_nodes((("text", "x"),)), height((("text", "x"),))), (1, 0))
        document[1][2].clear()
        self.assertEqual(told[1][2], (node("b"), ("text", "")))

    def test_wrong(self):
        for call in OF_DOCUMENTS:
            for value in (None, 3, "ab", True):
                self.assertFails(BadForm, -1, call, value)
            for wrong in (None, "x", (), ("text",), ("text", 5), ("text", "a", "b"), ("text", "x" * 65536), ("element",),
                          ("element", "a"), ("element", "A", ()), ("element", "a", "b"), ("element", "a", None),
                          ("element", "a", (), ()), ("element", "", ()), ("element", "a" * 13, ()), ("open", "a"),
                          ("label", "a", ()), (["text"], "a"), (("text", "a"),), ("text", ("a",))):
                self.assertFails(BadForm, 0, call, [wrong])
                self.assertFails(BadForm, 1, call, (node("a"), wrong, None))
                self.assertFails(BadForm, 1, call, (node("a", wrong), None))
                self.assertFails(BadForm, 3, call, (node("a", node("b", ("text", "")), wrong, wrong), 5))
                self.assertFails(BadForm, 3, call, (node("a", node("b", ("text", ""), wrong)), 5))
                self.assertFails(BadForm, 4, call, [["element", "a", [node("b", node("c"))]], ("text", "t"), wrong])

    def test_any_value(self):
        for value in ANY_VALUES:
            for call in OF_DOCUMENTS:
                self.assertTuples(self.assertOnly((BadForm,), call, value))
            self.assertOnly((BadStream,), document_of, value)
            self.assertOnly((BadStream,), markup, value)
            for call in OF_TEXTS:
                self.assertTuples(self.assertOnly((BadText,), call, value))

    def test_streams(self):
        signs = (("text", "x"), ("open", "a"), ("open", "b"), ("close",), ("close",), ("open", "a"), ("close",))
        self.assertEqual(document_of(as_lists(signs)), (("text", "x"), node("a", node("b")), node("a")))
        self.assertTuples(document_of(as_lists(signs)))
        self.assertFails(BadStream, -1, document_of, None)
        self.assertFails(BadStream, 3, document_of, signs[:3])
        self.assertFails(BadStream, 1, document_of, (("text", "x"), ("close",)))
        self.assertFails(BadStream, 0, document_of, (("element", "a", ()),))

    def test_both_ways(self):
        chance = seeded(8)
        for _ in range(300):
            words = ("a", "open", "close", "text", "element")
            document = some_document(chance, 14, labels=words, texts=words + ("", '"', "\\", "a\\\"", "\n<a>"))
            signs = signs_of(as_lists(document))
            self.assertEqual(check_stream(signs), signs)
            self.assertEqual(document_of(signs), document)
            self.assertEqual(check_document(as_lists(document)), document)
            self.assertEqual(count_nodes(document), nodes_in(document))
            self.assertEqual(height(document), deepest(document))
            self.assertEqual(markup_of(document), markup(signs))
            self.assertEqual(from_text(markup(signs)), document)
            prefix = some_prefix(chance, 12, words, words)
            stream = prefix + closing(depth(prefix))
            self.assertEqual(signs_of(document_of(stream)), stream)

    def test_great(self):
        wide = tuple(("text", "t") for _ in range(1000)) + tuple(node("a") for _ in range(1000))
        tower = ()
        for _ in range(18):
            tower = (("element", "a", tower + tuple(node("b") for _ in range(100))),)
        for document in (wide, tower):
            self.assertWithin(3, check_document, document)
            signs = self.assertWithin(3, signs_of, document)
            self.assertEqual(self.assertWithin(3, document_of, signs), document)
            text = self.assertWithin(3, markup_of, document)
            self.assertEqual(self.assertWithin(3, from_text, text), document)
        self.assertEqual((count_nodes(wide), height(wide)), (2000, 1))
        self.assertEqual((count_nodes(tower), height(tower)), (18 * 101, 19))
        deep = (("open", "a"),) * 1000 + (("close",),) * 1000
        self.assertEqual(signs_of(document_of(deep)), deep)
        self.assertEqual(height(document_of(deep)), 1000)


class Markup(Case):
    def test_plain(self):
        signs = [["text", 'a"\\'], ("open", "ab"), ("text", ""), ("open", "c"), ("close",)]
        self.assertEqual(markup(signs), '"a\\"\\\\"<ab>""<c></c>')
        self.assertEqual(markup(signs + [("close",)]), '"a\\"\\\\"<ab>""<c></c></ab>')
        self.assertEqual(markup(()), "")
        self.assertEqual(read_markup(markup(signs)), (tuple(tuple(sign) for sign in signs), 20))
        self.assertFails(BadStream, -1, markup, None)
        self.assertFails(BadStream, 1, markup, [("open", "a"), "x"])
        self.assertFails(BadStream, 0, markup, [("close",)])
        self.assertFails(BadForm, 1, markup_of, [("text", "a"), "x"])

    def test_wrong_values(self):
        for value in (None, 3, True, (), [], ["<a>"], b"<a>"):
            for call in OF_TEXTS:
                self.assertFails(BadText, -1, call, value)

    def test_first_wrong_place(self):
        for text, at in (("a", 0), (" ", 0), (">", 0), ("<>", 1), ("<A>", 1), ("<a1>", 2), ("<a >", 2), ("</a>", 1),
                         ("<a></b>", 5), ("<a></a></a>", 8), ("<a></a", None), ("<ab></a>", 7), ("<a></ab>", 6),
                         ('"\\a"', 2), ('"\\', None), ('"x" ', 3), ("<a>\n", 3), ("<abcdefghijkl>", None),
                         ("<abcdefghijklm>", 13), ("<abcdefghijkl", None), ("<a><b></a>", 8), ("<a", None), ("<", None),
                         ("<a></", None), ('"', None), ('"abc', None), ("<a></>", 5), ("<\u00e9>", 1), ("</", 1),
                         ("<a><", None), ("<a></a><b></a>", 12)):
            if at is None:
                read_markup(text)
                if text != "<abcdefghijkl>":
                    self.assertFails(BadText, len(text), from_text, text)
            else:
                self.assertFails(BadText, at, read_markup, text)
                self.assertFails(BadText, at, from_text, text)
        self.assertFails(BadText, 3, from_text, "<a>")
        self.assertFails(BadText, 14, from_text, "<abcdefghijkl>")
        self.assertFails(BadText, 12, from_text, "<a><b></b></")
        self.assertEqual(from_text(""), ())
        self.assertEqual(read_markup(""), ((), 0))

    def test_long_texts(self):
        self.assertEqual(from_text('"' + "x" * 65535 + '"'), (("text", "x" * 65535),))
        self.assertEqual(from_text('"' + '\\"' * 65535 + '"'), (("text", '"' * 65535),))
        self.assertEqual(read_markup('"' + "x" * 65535), ((), 0))
        self.assertFails(BadText, 65536, read_markup, '"' + "x" * 65536)
        self.assertFails(BadText, 65536, read_markup, '"' + "x" * 65535 + '\\"')
        self.assertFails(BadText, 65537, from_text, '"' + "x" * 65535 + '"x')

    def test_cut_and_bent(self):
        chance = seeded(81)
        for _ in range(40):
            signs = some_prefix(chance, 8, labels=("a", "close", "abcdefghijkl"), texts=("", '"', "\\\\", "<a>", "open"))
            text = markup(signs)
            ends = [len(markup(signs[:many])) for many in range(len(signs) + 1)]
            for cut in range(len(text) + 1):
                many = max(place for place, end in enumerate(ends) if end <= cut)
                self.assertEqual(read_markup(text[:cut]), (signs[:many], ends[many]))
                if not (many == len(ends) - 1 or ends[many] == cut) or depth(signs[:many]) > 0:
                    self.assertFails(BadText, cut, from_text, text[:cut])

    def test_a_wrong_character_at_each_place(self):
        signs = (("text", 'x"'), ("open", "ab"), ("open", "abcdefghijkl"), ("close",), ("text", ""), ("close",), ("open", "b"))
        text = markup(signs)
        for at in range(len(text) + 1):
            whole, behind = read_markup(text[:at])
            labels = open_labels(whole)
            for character in 'abz<>/"\\ 1A\n\u00e9':
                part = text[behind:at] + character
                can_stand = (
                    re.fullmatch(r"<([a-z]{1,12}>?)?", part)
                    or re.fullmatch(r'"([^"\\]|\\["\\])*(\\|")?', part)
                    or (labels and f"</{labels[-1]}>".startswith(part))
                )
                for more in ("", "</ab>", '"'):
                    told = self.assertOnly((BadText,), read_markup, text[:at] + character + more)
                    if can_stand and more == "":
                        self.assertIsInstance(told, tuple)
                    elif not can_stand:
                        self.assertFails(BadText, at, read_markup, text[:at] + character + more)
                        self.assertFails(BadText, at, from_text, text[:at] + character + more)

    def test_all_short_texts(self):
        characters = '<>/ab"\\'
        viable = prefixes_of_markup(5)
        texts = [""]
        for text in texts:
            if len(text) < 5:
                texts.extend(text + character for character in characters)
        for text in texts:
            wrong = [at for at in range(len(text)) if text[:at + 1] not in viable]
            if wrong:
                self.assertFails(BadText, wrong[0], read_markup, text)
                self.assertFails(BadText, wrong[0], from_text, text)
                continue
            signs, behind = read_markup(text)
            self.assertEqual(markup(signs), text[:behind])
            self.assertFalse([end for end in range(behind + 1, len(text) + 1) if text[:end] in viable["whole"]])
            if behind == len(text) and depth(signs) == 0:
                self.assertEqual(from_text(text), document_of(signs))
            else:
                self.assertFails(BadText, len(text), from_text, text)


def prefixes_of_markup(most):
    """All beginnings, of at most so many characters, of markup of prefixes; under "whole" such as is whole."""
    names = [""]
    for name in names:
        if len(name) < most:
            names.extend(name + letter for letter in "ab")
    strings = [""]
    for string in strings:
        if len(string) < most:
            strings.extend(string + character for character in '<>/ab"\\')
    found = {"whole": {""}, "": True}
    todo = [("", ())]
    for text, labels in todo:
        parts = [('"' + string.replace("\\", "\\\\").replace('"', '\\"') + '"', labels)
                 for string in strings if len(text) + len(string) <= most]
        parts += [("<" + name + ">", labels + (name,)) for name in names[1:] if len(text) + len(name) <= most]
        if labels:
            parts.append(("</" + labels[-1] + ">", labels[:-1]))
        for part, behind in parts:
            for end in range(1, len(part) + 1):
                if len(text) + end <= most:
                    found[text + part[:end]] = True
            if len(text + part) <= most and (text + part, behind) not in todo:
                found["whole"].add(text + part)
                todo.append((text + part, behind))
    return found


if __name__ == "__main__":
    unittest.main()

"""[5], [6]: signs, octets, forms."""

import itertools
import unittest

from stillopen.errors import BadOctets, BadSign, BadStream, Broken, Refused
from stillopen.forms import check_sign, healing, is_sign, read_signs, sign_at, sign_octets, write_signs
from given import ANY_VALUES, Case, as_lists, seeded, some_prefix

SMALL = "abcdefghijklmnopqrstuvwxyz"
ALPHABET = SMALL + SMALL.upper() + "0123456789" + " " + ".,:;!?()<>/=+*&#-_'\"\\" + "\n"


def can_go_on(octets, octet):
    """Whether octets that can be gone on with can be so behind this octet: an account of its own of [6]."""
    left, bound, part = 0, 0, None
    for one in (*octets, octet):
        if part is None:
            if one > 2:
                return False
            part = (None, "many", "high")[one]
        elif part == "many":
            if not 1 <= one <= 12:
                return False
            left, bound, part = one, 26, "codes"
        elif part == "high":
            left, part = 256 * one, "low"
        elif part == "low":
            left, bound, part = left + one, 85, "codes"
        else:
            if one >= bound:
                return False
            left -= 1
        if part == "codes" and left == 0:
            part = None
    return True


class Signs(Case):
    def test_signs(self):
        for sign in (("open", "a"), ("open", "z" * 12), ("text", ""), ("text", "\u00e9" * 65535), ("close",)):
            self.assertEqual(check_sign(sign), sign)
            self.assertEqual(check_sign(list(sign)), sign)
            self.assertTuples(check_sign(list(sign)))
            self.assertIs(is_sign(sign), True)
            self.assertIs(is_sign(list(sign)), True)

    def test_no_signs(self):
        for value in (None, 5, "close", "open", {}, (), [], ("open",), ("text",), ("close", "a"), ("close", "a", "b"),
                      ("open", "a", "b"), ("text", "a", None), ("Open", "a"), ("label", "a"), (["open"], "a"), (0, "a"),
                      (None,), (("close",),), ("",)):
            self.assertFails(BadSign, -1, check_sign, value)
            self.assertIs(is_sign(value), False)
        for value in (("open", ""), ("open", "a" * 13), ("open", "A"), ("open", None), ("open", 1), ["open", ["a"]],
                      ("text", None), ("text", 1), ("text", True), ("text", "x" * 65536), ["text", ("a",)]):
            self.assertFails(BadSign, 1, check_sign, value)
            self.assertIs(is_sign(value), False)

    def test_any_value(self):
        for value in ANY_VALUES:
            told = self.assertOnly((BadSign,), check_sign, value)
            self.assertIs(is_sign(value), not isinstance(told, BadSign))
            self.assertTuples(told)


class Forms(Case):
    def test_forms(self):
        self.assertEqual(len(ALPHABET), 85)
        self.assertEqual(sign_octets(("close",)), (0,))
        self.assertEqual(sign_octets(["close"]), (0,))
        self.assertEqual(sign_octets(("open", "a")), (1, 1, 0))
        self.assertEqual(sign_octets(("open", "abcdefghijkz")), (1, 12, 0, 1, 2, 3, 4, 5, 6, 7, 8, 9, 10, 25))
        self.assertEqual(sign_octets(("text", "")), (2, 0, 0))
        self.assertEqual(sign_octets(("text", ALPHABET)), (2, 0, 85) + tuple(range(85)))
        self.assertEqual(sign_octets(("text", "b" * 256)), (2, 1, 0) + (1,) * 256)
        self.assertEqual(sign_octets(("text", "\n" * 255)), (2, 0, 255) + (84,) * 255)
        self.assertEqual(sign_octets(("text", "a" * 65535)), (2, 255, 255) + (0,) * 65535)

    def test_no_forms(self):
        for character in ("%", "@", "$", "[", "]", "{", "|", "}", "~", "^", "`", "\t", "\r", "\0", "\u00e9", "\udc80"):
            self.assertNotIn(character, ALPHABET)
            for sign in (("text", character), ["text", "ab" + character], ("text", character + "ab")):
                self.assertFails(Refused, sign, sign_octets, sign)
                self.assertFails(BadStream, 1, write_signs, [("close",), sign, ("text", "%")])
        self.assertFails(BadSign, 1, sign_octets, ("text", "x" * 65536))
        self.assertFails(BadSign, -1, sign_octets, ("text", "%", "%"))
        for value in ANY_VALUES:
            self.assertOnly((BadSign, Refused), sign_octets, value)

    def test_each_character_alone(self):
        for code, character in enumerate(ALPHABET):
            self.assertEqual(sign_octets(("text", character)), (2, 0, 1, code))
            self.assertEqual(sign_at((2, 0, 1, code), 0), (("text", character), 4))
        for code, letter in enumerate(SMALL):
            self.assertEqual(sign_octets(("open", letter)), (1, 1, code))
            self.assertEqual(sign_at((1, 1, code), 0), (("open", letter), 3))

    def test_write(self):
        self.assertEqual(write_signs(()), ())
        self.assertEqual(write_signs([["close"], ("open", "b"), ("text", "A")]), (0, 1, 1, 1, 2, 0, 1, 26))
        self.assertFails(BadStream, -1, write_signs, "close")
        self.assertFails(BadStream, -1, write_signs, None)
        self.assertFails(BadStream, 0, write_signs, ("close",))
        self.assertFails(BadStream, 1, write_signs, [("close",), ("open", "")])
        self.assertFails(BadStream, 1, write_signs, [("close",), None, ("text", "%")])
        for value in ANY_VALUES:
            self.assertTuples(self.assertOnly((BadStream,), write_signs, value))

    def test_octets(self):
        for call in (read_signs, healing, lambda value: sign_at(value, 0), lambda value: sign_at(value, None)):
            for value in (None, 3, "abc", b"\0", {0: 0}, True):
                self.assertFails(BadOctets, -1, call, value)
            for wrong in (-1, 256, 10 ** 30, True, False, None, "0", (0,)):
                self.assertFails(BadOctets, 0, call, (wrong,))
                self.assertFails(BadOctets, 2, call, [0, 0, wrong, 999])
                self.assertFails(BadOctets, 1, call, [77, wrong])

    def test_places(self):
        for at in (None, -1, True, False, "0", (0,), [0]):
            self.assertFails(Refused, at, sign_at, (9, 9), at)
            self.assertFails(BadOctets, 1, sign_at, (9, 999), at)
        octets = (0, 1, 1, 2, 0)
        self.assertEqual(sign_at(octets, 0), (("close",), 1))
        self.assertEqual(sign_at(octets, 1), (("open", "c"), 4))
        self.assertEqual(sign_at(octets, 4), (("close",), 5))
        self.assertEqual(sign_at([1, 2, 0, 0], 2), (("close",), 3))
        for at in (5, 6, 7, 10 ** 30):
            self.assertFails(Broken, 5, sign_at, octets, at)
        self.assertFails(Broken, 0, sign_at, (), 0)
        self.assertFails(Broken, 0, sign_at, (), 9)
        self.assertFails(Broken, 5, sign_at, octets, 2)
        self.assertFails(Broken, 4, sign_at, (0, 0, 0, 1), 3)
        self.assertFails(Broken, 2, sign_at, (1, 1, 99), 0)
        self.assertFails(Broken, 1, sign_at, (1, 0), 0)
        self.assertFails(Broken, 1, sign_at, (1, 13, 99), 0)
        self.assertFails(Broken, 3, sign_at, (2, 0, 2, 85), 0)
        self.assertEqual(sign_at((0, 3), 0), (("close",), 1))
        self.assertFails(Broken, 1, sign_at, (0, 3), 1)

    def test_any_value(self):
        for value in ANY_VALUES:
            for call in (read_signs, healing):
                self.assertTuples(self.assertOnly((BadOctets, Broken), call, value))
            self.assertOnly((BadOctets, Broken, Refused), sign_at, value, value)
            self.assertOnly((Broken, Refused), sign_at, (1, 2, 0), value)


class Reading(Case):
    def check_octets(self, octets, whole):
        """All that reads these octets, which can be gone on with; whole is behind the last whole sign."""
        signs, behind = read_signs(octets)
        self.assertEqual((behind, write_signs(signs)), (whole, octets[:whole]))
        self.assertEqual(read_signs(list(octets)), (signs, behind))
        more = healing(octets)
        self.assertEqual(more == (), whole == len(octets))
        healed, end = read_signs(octets + more)
        self.assertEqual(end, len(octets + more))
        self.assertEqual(len(healed), len(signs) + (1 if more else 0))
        for many in range(1, len(more)):
            self.assertLess(read_signs(octets + more[:many])[1], len(octets) + many)

    def test_cut_and_bent(self):
        for sign in itertools.product(("open", "text"), ("open", "text", "close")):
            self.assertEqual(read_signs(sign_octets(sign)), ((sign,), len(sign_octets(sign))))
        signs = (("open", "ab"), ("text", "zZ\n"), ("close",), ("text", ""), ("open", "abcdefghijkl"), ("text", "x" * 258))
        octets = write_signs(signs)
        ends = [0]
        for sign in signs:
            ends.append(ends[-1] + len(sign_octets(sign)))
        for cut in range(len(octets) + 1):
            self.check_octets(octets[:cut], max(end for end in ends if end <= cut))
            at = max(end for end in ends if end <= cut)
            self.assertFails(Broken, cut, sign_at, octets[:cut], at)
        for at in range(30):
            for octet in range(256):
                bent = octets[:at] + (octet,)
                if can_go_on(octets[:at], octet):
                    self.assertGreaterEqual(at + 1, read_signs(bent)[1])
                else:
                    for behind in ((), (0, 0), (255, 3)):
                        self.assertFails(Broken, at, read_signs, bent + behind)
                        self.assertFails(Broken, at, healing, bent + behind)

    def test_all_short_octets(self):
        values = (0, 1, 2, 3, 12, 13, 25, 26, 84, 85)
        for many in range(5):
            for octets in itertools.product(values, repeat=many):
                wrong = [at for at in range(many) if not can_go_on(octets[:at], octets[at])]
                if wrong:
                    self.assertFails(Broken, wrong[0], read_signs, octets)
                    self.assertFails(Broken, wrong[0], healing, octets)
                elif len(healing(octets)) < 600:
                    self.check_octets(octets, read_signs(octets)[1])

    def test_healing_is_least(self):
        for octets, more in (((), ()), ((0,), ()), ((1,), (1, 0)), ((1, 3), (0, 0, 0)), ((1, 3, 25), (0, 0)),
                             ((2,), (0, 0)), ((2, 0), (0,)), ((2, 1), (0,) * 257), ((2, 0, 2), (0, 0)),
                             ((2, 0, 2, 84), (0,)), ((0, 0, 1), (1, 0)), ((2, 0, 0), ()), ((2, 0, 0, 2), (0, 0)),
                             ((2, 255), (0,) * 65281), ((2, 1, 1, 5), (0,) * 256)):
            self.assertEqual(healing(octets), more)
        for octets in ((1,), (2,), (2, 0), (1, 2), (1, 1), (2, 0, 1), (0, 2, 0, 2, 1)):
            more = healing(octets)
            for many in range(len(more) + 1):
                for other in itertools.product(range(256 if many < 2 else 40), repeat=many):
                    if many < len(more) or other < more:
                        try:
                            self.assertLess(read_signs(octets + other)[1], len(octets + other), (octets, other))
                        except Broken:
                            pass

    def test_what_is_ahead_and_behind(self):
        for sign in (("open", "ab"), ("text", "A."), ("close",), ("text", "")):
            form = sign_octets(sign)
            for ahead in ((), (9,), (1, 12), (255, 255, 255)):
                for behind in ((), (7,), (0, 1)):
                    self.assertEqual(sign_at(ahead + form + behind, len(ahead)), (sign, len(ahead + form)))

    def test_no_form_begins_another(self):
        forms = [sign_octets(sign) for sign in (("close",), ("open", "a"), ("open", "aa"), ("open", "ab"), ("text", ""),
                                                ("text", "a"), ("text", "aa"), ("text", "a" * 256))]
        for one, other in itertools.permutations(forms, 2):
            self.assertNotEqual(one, other[:len(one)])

    def test_many(self):
        chance = seeded(6)
        for _ in range(200):
            signs = some_prefix(chance, chance.randint(0, 12))
            octets = write_signs(signs)
            self.assertEqual(read_signs(octets), (signs, len(octets)))
            self.assertEqual(write_signs(as_lists(signs)), octets)
            self.assertEqual(healing(octets), ())

    def test_great(self):
        octets = (0,) * 20000
        signs, behind = self.assertWithin(5, read_signs, octets)
        self.assertEqual((len(signs), behind), (20000, 20000))
        self.assertEqual(self.assertWithin(5, write_signs, signs), octets)
        self.assertEqual(self.assertWithin(5, healing, octets + (2,)), (0, 0))
        texts = tuple(("text", "\n" * 1000) for _ in range(19))
        octets = self.assertWithin(5, write_signs, texts)
        self.assertEqual(self.assertWithin(5, read_signs, octets), (texts, 19 * 1003))
        self.assertEqual(self.assertWithin(5, sign_at, octets, 18 * 1003), (texts[0], 19 * 1003))


if __name__ == "__main__":
    unittest.main()

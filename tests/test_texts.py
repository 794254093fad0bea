"""Point 6 and the section "gradetalk/texts.py" of the interface."""

import copy
import itertools
import random
import sys
import unittest

from gradetalk.errors import InvalidText, TooLarge
from gradetalk.sayings import Saying, always, named, never
from gradetalk.texts import parsed
from tests.draws import drawn_saying
from tests.things import BINARY, LETTERS, anything, balanced, deep, leaning

WORDS = ("not", "min", "max", "same")


def words_of(text):
    """The tokens of a text that is written as the document says."""
    for sign in "()":
        text = text.replace(sign, f" {sign} ")
    return text.split()


def with_blanks(words, rng):
    """The tokens with drawn blanks between them, at least one where they would run together."""
    text = " " * rng.choice((0, 0, 1, 5))
    for word in words:
        if text and text[-1].isalpha() and word[0].isalpha():
            text += " "
        text += word + " " * rng.choice((0, 0, 1, 3))
    return text


def without_blanks(words):
    text = ""
    for word in words:
        text += " " + word if text and text[-1].isalpha() and word[0].isalpha() else word
    return text


def drawn_sayings():
    rng = random.Random(6)
    return [drawn_saying(rng, size, LETTERS) for size in range(1, 60) for _ in range(4)]


def large_sayings():
    """Sayings whose texts have at most 400 characters, also without blanks, or a few more."""
    return [deep(100), balanced(99), leaning(77, "then", True), leaning(77, "same", False).denied(), leaning(99, "both", True)]


class Reading(unittest.TestCase):
    def test_each_kind(self):
        a, b = named("a"), named("b")
        self.assertEqual(parsed("a"), a)
        self.assertEqual(parsed("0"), never())
        self.assertEqual(parsed("1"), always())
        self.assertEqual(parsed("not a"), a.denied())
        self.assertEqual(parsed("(a & b)"), a.both(b))
        self.assertEqual(parsed("(a -> b)"), a.then(b))
        self.assertEqual(parsed("(a min b)"), a.lower(b))
        self.assertEqual(parsed("(a max b)"), a.higher(b))
        self.assertEqual(parsed("(a same b)"), a.same(b))
        for letter in LETTERS:
            self.assertEqual(parsed(letter), named(letter))

    def test_within_one_another(self):
        a, b, c = named("a"), named("b"), named("c")
        self.assertEqual(parsed("(a -> (b & not c))"), a >> (b & ~c))
        self.assertEqual(parsed("((a -> b) & not c)"), (a >> b) & ~c)
        self.assertEqual(parsed("not (a & b)"), ~(a & b))
        self.assertEqual(parsed("(not a & b)"), ~a & b)
        self.assertEqual(parsed("not not not 0"), ~~~never())
        self.assertEqual(parsed("((a min b) same (b max 1))"), a.lower(b).same(b.higher(always())))

    def test_what_is_told_is_a_saying(self):
        saying = parsed(text="(c & a)")
        self.assertIsInstance(saying, Saying)
        self.assertEqual((saying.kind, saying.letter, saying.size, saying.names), ("both", None, 3, ("a", "c")))
        self.assertEqual(saying.pieces, (named("c"), named("a")))

    def test_every_text_is_read_back(self):
        for saying in (*drawn_sayings(), *large_sayings()):
            self.assertEqual(parsed(str(saying)), saying)
            self.assertEqual(str(parsed(str(saying))), str(saying))

    def test_without_blanks(self):
        for saying in (*drawn_sayings(), *large_sayings()):
            self.assertEqual(parsed(without_blanks(words_of(str(saying)))), saying)

    def test_with_more_blanks(self):
        rng = random.Random(7)
        for saying in drawn_sayings():
            for _ in range(3):
                text = with_blanks(words_of(str(saying)), rng)
                self.assertEqual(parsed(text), saying, text)

    def test_blanks_around_single_tokens(self):
        self.assertEqual(parsed("   a   "), named("a"))
        self.assertEqual(parsed("not0"), never().denied())
        self.assertEqual(parsed("not(a&b)"), ~(named("a") & named("b")))
        self.assertEqual(parsed("(0min1)"), never().lower(always()))
        self.assertEqual(parsed("(0->1)"), never() >> always())
        self.assertEqual(parsed("(a->not b)"), named("a") >> ~named("b"))
        self.assertEqual(parsed("(1same not(0 max0))"), always().same(~never().higher(never())))

    def test_the_same_call_again(self):
        self.assertEqual(parsed("(a & b)"), parsed("(a & b)"))


class Refusing(unittest.TestCase):
    def refused(self, text):
        with self.assertRaises(InvalidText) as caught:
            parsed(text)
        return caught.exception.at

    def test_what_is_no_string(self):
        for thing in [*anything(), (0, 1), named("a"), b"a", ["a"], ("a",)]:
            if not isinstance(thing, str):
                before = copy.deepcopy(thing)
                with self.subTest(repr(thing)[:80]):
                    self.assertIsNone(self.refused(thing))
                    self.assertEqual(thing, before)

    def test_the_end_comes_too_early(self):
        for text in ("", " ", "    ", "not", "not ", "(", "( ", "(a", "(a ", "(a &", "(a & ", "(a & b", "(a & b ",
                     "not (a -> (b & c) ", "(a min", "(a same not", "(((0 & 1) & 1) max 1", "not not (not not"):
            with self.subTest(text):
                self.assertEqual(self.refused(text), len(text))

    def test_tokens_that_cannot_stand(self):
        for text, at in (
            (")", 0), ("&", 0), ("->", 0), ("min", 0), ("max", 0), ("same", 0), (" ) ", 1),
            ("()", 1), ("(&", 1), ("( -> a)", 2), ("(min", 1), ("not)", 3), ("not &", 4), ("not same", 4),
            ("a a", 2), ("a b c", 2), ("0 1", 2), ("01", 1), ("a0", 1), ("0a", 1), ("a)", 1), ("a & b", 2), ("a -> b", 2),
            ("a(", 1), ("not a)", 5), ("not a b", 6), ("a not b", 2),
            ("(a)", 2), ("(a b)", 3), ("(a not b)", 3), ("(a (", 3), ("(a 0)", 3),
            ("(a & )", 5), ("(a & & b)", 5), ("(a & -> b)", 5), ("(a min max b)", 7), ("(a & min", 5),
            ("(a & b & c)", 7), ("(a & b -> c)", 7), ("(a & b c)", 7), ("(a & b not", 7), ("(a & b (", 7), ("(a & b 1)", 7),
            ("(a & b) ", None), ("(a & b))", 7), ("(a & b) c", 8), ("(a & b) & c", 8), ("(a & b)(", 7),
            ("((a & b))", 8), ("((a) & b)", 3), ("(not a)", 6), ("(not (a & b))", 12),
        ):
            with self.subTest(text):
                if at is None:
                    parsed(text)
                else:
                    self.assertEqual(self.refused(text), at)

    def test_runs_of_letters(self):
        for text, at in (
            ("no", 0), ("nott", 0), ("nota", 0), ("notnot a", 0), ("ab", 0), ("mi", 0), (" no ", 1), ("not no", 4),
            ("(a mi", 3), ("(a mi b)", 3), ("(a minb)", 3), ("(amin b)", 1), ("(aminb)", 1), ("(0minb)", 2), ("(0 sam 1)", 3),
            ("(a samee b)", 3), ("(a maxmin b)", 3), ("(a then b)", 3), ("(a and b)", 3), ("never", 0), ("aa", 0),
            ("z" * 300, 0), ("not " + "z" * 300, 4), ("(a & nob)", 5), ("(a & b) no", 8), ("(a no", 3),
        ):
            with self.subTest(text):
                self.assertEqual(self.refused(text), at)

    def test_characters_that_begin_no_token(self):
        others = [chr(code) for code in (10, *range(33, 127))]
        others = [sign for sign in others if sign not in LETTERS and sign not in "&()01"]
        for sign in others:
            with self.subTest(sign):
                self.assertEqual(self.refused(sign), 0)
                self.assertEqual(self.refused("a" + sign), 1)
                self.assertEqual(self.refused("  " + sign + "a"), 2)
                self.assertEqual(self.refused("not" + sign + "a"), 3)
                self.assertEqual(self.refused("(a" + sign + "b)"), 2)
                self.assertEqual(self.refused("(a & b" + sign), 6)
                self.assertEqual(self.refused("(a & b)" + sign), 7)

    def test_characters_beyond_ascii(self):
        for sign in ("\u00e9", "\u0430", "\u00a0", "\u2192", "\ud800", "\t", "\r", "\x00", "\u00b9"):
            self.assertEqual(self.refused("(a & " + sign), 5)
            self.assertEqual(self.refused("a" + sign), 1)

    def test_a_dash_alone(self):
        for text, at in (("-", 0), ("(a -", 3), ("(a - > b)", 3), ("(a -- > b)", 3), ("(a --> b)", 3), ("(a -", 3), (">", 0),
                         ("(a > b)", 3), ("(a ->> b)", 5), ("(a->-b)", 4), ("(a -b)", 3), ("->-", 0), ("-->", 0)):
            with self.subTest(text):
                self.assertEqual(self.refused(text), at)

    def test_which_one_comes_first(self):
        self.assertEqual(self.refused("(a b) ?"), 3)
        self.assertEqual(self.refused("(a ? b b"), 3)
        self.assertEqual(self.refused("? )"), 0)
        self.assertEqual(self.refused(") ?"), 0)
        self.assertEqual(self.refused("(a & b) ?"), 8)
        self.assertEqual(self.refused("a?no"), 1)
        self.assertEqual(self.refused("no?"), 0)

    def test_every_short_row_of_tokens(self):
        words = ("a", "not", "(", ")", "&")
        readable = {1: [("a",)]}
        for length in range(2, 18):
            readable[length] = [("not", *row) for row in readable[length - 1]]
            for first in range(1, length - 3):
                for x in readable[first]:
                    readable[length] += [("(", *x, "&", *y, ")") for y in readable[length - 3 - first]]
        whole = {row for length in range(1, 5) for row in readable[length]}
        begun = {row[:end] for rows in readable.values() for row in rows for end in range(min(4, len(row)) + 1)}
        for length in range(5):
            for row in itertools.product(words, repeat=length):
                text = " ".join(row)
                if row in whole:
                    self.assertEqual(str(parsed(text)), text)
                    continue
                bad = [end for end in range(1, length + 1) if row[:end] not in begun]
                wanted = len(" ".join(row[: bad[0]])) - len(row[bad[0] - 1]) if bad else len(text)
                with self.subTest(text):
                    self.assertEqual(self.refused(text), wanted)


class Nesting(unittest.TestCase):
    def nested(self, depth):
        return "(" * depth + "a" + "&b)" * depth

    def test_60_parentheses(self):
        for depth in (59, 60):
            saying = named("a")
            for _ in range(depth):
                saying = saying & named("b")
            self.assertEqual(parsed(self.nested(depth)), saying)
        deep_right = "(a&" * 60 + "a" + ")" * 60
        self.assertEqual(parsed(deep_right).size, 121)

    def test_61_parentheses(self):
        for text, at in (
            (self.nested(61), 60),
            ("(a&" * 60 + "(a&b" + ")" * 61, 180),
            ("(" * 400, 60),
            (" ( " * 61, 181),
            ("not(" * 61, 243),
            ("(" * 60 + "(", 60),
            ("(" * 60 + "?(", 60),
        ):
            with self.assertRaises(InvalidText) as caught:
                parsed(text)
            self.assertEqual(caught.exception.at, at)

    def test_60_open_and_the_end(self):
        with self.assertRaises(InvalidText) as caught:
            parsed("(" * 60)
        self.assertEqual(caught.exception.at, 60)

    def test_closed_parentheses_do_not_count(self):
        # Only 60 may be open at a time; here about 100 stand one behind the other.
        text = "a"
        for _ in range(6):
            text = "(" + text + "&" + text + ")"
        saying = parsed(text)
        self.assertEqual(saying.size, 127)
        inner = "(a&b)"
        text = "(" * 59 + inner + ("&" + inner + ")") * 25 + "&a)" * 34
        self.assertEqual(parsed(text).size, 3 + 25 * 4 + 34 * 2)

    def test_many_nots(self):
        saying = named("a")
        for _ in range(99):
            saying = ~saying
        self.assertEqual(parsed("not " * 99 + "a"), saying)
        self.assertEqual(parsed("not " * 99 + "0").size, 100)

    def test_200_nodes(self):
        def joined(leaves):
            return "0" if leaves == 1 else f"({joined(leaves // 2)}&{joined(leaves - leaves // 2)})"

        text = "not" + joined(100)
        self.assertEqual(len(text), 400)
        self.assertEqual(parsed(text).size, 200)

    def test_too_many_nodes(self):
        # Beyond the limits of the document, but the error for it is told there.
        self.assertEqual(parsed("not " * 199 + "a").size, 200)
        for text, size in (("not " * 200 + "a", 201), ("not " * 300 + "a", 301)):
            with self.assertRaises(TooLarge) as caught:
                parsed(text)
            self.assertEqual(caught.exception.size, size)
        half = "not " * 149 + "a"
        self.assertEqual(parsed(f"(a & not {half})").size, 153)
        for text, size in ((f"({half} & {half})", 301), (f"not ({half} & {half})", 302)):
            with self.assertRaises(TooLarge) as caught:
                parsed(text)
            self.assertEqual(caught.exception.size, size)

    def test_the_text_is_looked_at_ahead_of_the_size(self):
        for text in ("not " * 300, "not " * 300 + "ab", "not " * 300 + "a)"):
            self.assertRaises(InvalidText, parsed, text)


class AnyString(unittest.TestCase):
    """No string may bring an error of Python itself."""

    def read(self, text):
        try:
            saying = parsed(text)
        except InvalidText as error:
            self.assertIs(type(error.at), int)
            self.assertTrue(0 <= error.at <= len(text), (text, error.at))
            return
        self.assertEqual(str(saying), str(parsed(str(saying))))

    def test_drawn_strings(self):
        rng = random.Random(8)
        pool = [*"(((()))ab01&&  -?\n", "not ", "->", " min ", "max", "same", "no", "(a&b)", "not a"]
        for _ in range(4000):
            self.read("".join(rng.choice(pool) for _ in range(rng.randint(0, 40))))

    def test_texts_with_one_character_exchanged(self):
        rng = random.Random(9)
        for saying in drawn_sayings():
            text = str(saying)
            for _ in range(5):
                at = rng.randrange(len(text) + 1)
                self.read(text[:at] + rng.choice("(a)& -1>n") + text[at + rng.randint(0, 2):])

    def test_deep_strings(self):
        for text in ("not " * 100, "(" * 400, ")" * 400, "not(" * 100, "not " * 100_000, "(" * 100_000, "not " * 100_000 + "?"):
            self.read(text)

    def test_no_deep_recursion(self):
        limit = sys.getrecursionlimit()
        frame, used = sys._getframe(), 0
        while frame is not None:
            frame, used = frame.f_back, used + 1
        texts = [str(saying) for saying in large_sayings()]
        sys.setrecursionlimit(used + 60)
        try:
            for text in texts:
                parsed(text)
        finally:
            sys.setrecursionlimit(limit)


class Interface(unittest.TestCase):
    def test_it_is_defined_in_its_module(self):
        self.assertEqual(parsed.__module__, "gradetalk.texts")

    def test_every_kind_of_two_pieces_has_a_word(self):
        for kind in BINARY:
            saying = getattr(named("a"), kind)(named("b"))
            self.assertEqual(parsed(str(saying)).kind, kind)


if __name__ == "__main__":
    unittest.main()

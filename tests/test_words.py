"""checks, papers and words."""

import unittest

from editionlines.checks import is_fix, is_integer, is_within
from editionlines.clauses import Case
from editionlines.books import Refusal
from editionlines.errors import BadText
from editionlines.grounds import DayState, LineState
from editionlines.lots import Lot
from editionlines.numbers import Number, Release
from editionlines.papers import Denial, Paper
from editionlines.words import Words, number_of
from tools import EditionTest, any_values, same


class ChecksTest(unittest.TestCase):
    def test_is_integer(self):
        for value in any_values():
            self.assertIs(is_integer(value), type(value) is int)

    def test_is_fix(self):
        for value in any_values():
            self.assertIs(is_fix(value), type(value) is str and value in ("f", "g", "cut", "abcdefgh"))
        for word in ("a", "z", "az", "zzzzzzzz"):
            self.assertIs(is_fix(word), True)
        for word in ("", "aaaaaaaaa", "A", "aB", "a1", "a-", "a\n", "`", "{", "\u00e9", "\u0131"):
            self.assertIs(is_fix(word), False)

    def test_is_within(self):
        for value in any_values():
            self.assertIs(is_within(value, 0, 2), type(value) is int and value in (0, 1, 2))
        for value, expected in ((-1, False), (0, True), (6, True), (7, False), (True, False), (False, False)):
            self.assertIs(is_within(value, 0, 6), expected)
        self.assertIs(is_within(1, 2, 1), False)
        self.assertIs(is_within(-10 ** 39, -10 ** 39, 10 ** 39), True)


class NumberOfTest(unittest.TestCase):
    def test_words(self):
        for word, expected in (("0", 0), ("9", 9), ("10", None), ("-1", None), ("07", None), ("-0", None), ("+1", None),
                               ("", None), ("-", None), (" 1", None), ("1 ", None), ("1.0", None), ("1_0", None),
                               ("00", None), ("--1", None), ("1-", None), ("\u0661", None), ("\u00b2", None)):
            found = number_of(word, 0, 9)
            self.assertTrue(same(found, expected), word)

    def test_bounds(self):
        for number in range(-130, 131):
            for least, most in ((-5, 5), (0, 0), (1, 6), (-100, -9), (-9, 100), (7, 3)):
                found = number_of(str(number), least, most)
                self.assertTrue(same(found, number if least <= number <= most else None))
        big = 10 ** 39
        self.assertEqual(number_of(str(big), 0, big), big)
        self.assertEqual(number_of(str(-big), -big, 0), -big)
        self.assertIsNone(number_of(str(big + 1), 0, big))

    def test_any_values(self):
        for value in any_values():
            if not isinstance(value, str):
                self.assertIsNone(number_of(value, -5, 100))
        self.assertIsNone(number_of("9" * 6000, 0, 10 ** 39))
        self.assertIsNone(number_of("-" + "9" * 5999, -10 ** 39, 10 ** 39))


class WordsTest(EditionTest):
    def test_no_string(self):
        for value in any_values():
            if not isinstance(value, str):
                self.refuses(BadText(0, 0), Words, value)
                self.refuses(BadText(7, 0), Words, value, 7)
                self.refuses(BadText(7, 0), Words, text=value, line=7)

    def test_parts(self):
        for text, parts in (("", [""]), (" ", ["", ""]), ("a", ["a"]), ("a  b", ["a", "", "b"]), (" a ", ["", "a", ""]),
                            ("a\nb c", ["a\nb", "c"])):
            words = Words(text)
            self.assertEqual((list(words), len(words), words.spot, bool(words)), (parts, len(parts), 0, True))
            for part in parts:
                self.assertEqual(words.take(), part)
            self.assertEqual((list(words), len(words), words.spot, bool(words)), (parts, len(parts), len(parts), False))
            words.end()

    def test_is_next(self):
        words = Words("a b")
        self.assertEqual([words.is_next(), words.is_next("a"), words.is_next("b"), words.is_next("b", "a")],
                         [True, True, False, True])
        words.take()
        words.take()
        self.assertEqual([words.is_next(), words.is_next("b"), words.is_next("")], [False, False, False])

    def test_calls(self):
        rows = [
            ("take", (), ["a", "", "1", "x y"], []),
            ("take", ("a", "b"), ["a", "b"], ["c", "", "ab", "1"]),
            ("take_fix", (), ["a", "abcdefgh"], ["", "A", "abcdefghi", "1", "a1"]),
            ("take_by", (lambda word: word == "",), [""], ["a", "1"]),
            ("take_by", (lambda word: word.endswith(";"),), ["a;", ";"], ["a", ""]),
        ]
        for name, given, taken, refused in rows:
            for word in taken:
                words = Words(f"zero {word.replace(' ', '_')} end", 3)
                words.take()
                self.assertEqual(getattr(words, name)(*given), word.replace(" ", "_"))
                self.assertEqual(words.spot, 2)
            for word in refused:
                words = Words(f"zero {word} end", 3)
                words.take()
                self.refuses(BadText(3, 1), getattr(words, name), *given)
                self.assertEqual((words.spot, words.take()), (1, word))
            words = Words("zero", 2)
            words.take()
            self.refuses(BadText(2, 1), getattr(words, name), *given)
            self.assertEqual(words.spot, 1)

    def test_take_number(self):
        for word, least, most in (("1", 1, 6), ("6", 1, 6), ("0", 0, 0), ("-3", -3, 5), ("200", 1, 200)):
            words = Words(f"{word} {word}")
            self.assertTrue(same(words.take_number(least, most), int(word)))
            self.assertEqual(words.spot, 1)
        for word in ("7", "0", "-1", "01", "+1", "", "x", "-0", "1.0", "9" * 6000):
            words = Words(f"{word} 1", 4)
            self.refuses(BadText(4, 0), words.take_number, 1, 6)
            self.assertEqual(words.spot, 0)
        words = Words("1")
        words.take()
        self.refuses(BadText(0, 1), words.take_number, 1, 6)

    def test_a_rule_that_raises(self):
        def rule(word):
            raise KeyError(word)
        words = Words("a b")
        with self.assertRaises(KeyError):
            words.take_by(rule)
        self.assertEqual((words.spot, words.take()), (0, "a"))
        words.take()
        self.refuses(BadText(0, 2), words.take_by, rule)

    def test_a_rule_must_tell_true(self):
        for told in (False, None, 0, "", [], 1, "yes"):
            self.refuses(BadText(0, 0), Words("a").take_by, lambda word: told)

    def test_refuse_and_end(self):
        words = Words("a b", 5)
        self.refuses(BadText(5, 0), words.refuse)
        self.refuses(BadText(5, 0), words.end)
        words.take()
        self.refuses(BadText(5, 1), words.end)
        words.take()
        self.assertIsNone(words.end())
        self.refuses(BadText(5, 2), words.refuse)
        self.assertEqual(words.spot, 2)


class PapersTest(unittest.TestCase):
    KINDS = ((Release, ("number", "lot")), (LineState, ("lot", "releases", "live", "is_open")),
             (DayState, ("line", "lot", "is_shut")), (Case, ("line", "fix", "other", "day")),
             (Refusal, ("clause", "case")))

    def test_any_values(self):
        for kind, names in self.KINDS:
            self.assertTrue(issubclass(kind, Paper))
            self.assertFalse(issubclass(kind, Denial))
            for at in range(len(names)):
                for value, again in zip(any_values(), any_values()):
                    told = [value if k == at else k for k in range(len(names))]
                    paper = kind(*told)
                    self.assertTrue(same(getattr(paper, names[at]), value))
                    if not isinstance(value, (list, dict)):
                        self.assertIs(getattr(paper, names[at]), value)
                    self.assertIs(bool(paper), True)
                    self.assertEqual(paper, kind(**dict(zip(names, told))))
                    self.assertNotEqual(paper, kind(*["else" if k == at else k for k in range(len(names))]))
                    other = kind(*[again if k == at else k for k in range(len(names))])
                    self.assertEqual(paper == other, value == again)

    def test_as_python_compares(self):
        self.assertEqual(Release(1, 0), Release(True, False))
        self.assertNotEqual(Release(1, [1]), Release(1, (1,)))
        self.assertNotEqual(Release(1, 2), Refusal(1, 2))
        for value in any_values():
            self.assertFalse(Release(1, 2) == value)
            self.assertTrue(Case(1, None, None, 3) != value)

    def test_defaults(self):
        self.assertEqual(LineState(Lot("f")), LineState(Lot("f"), (), None, True))
        self.assertEqual(DayState(1, Lot()), DayState(line=1, lot=Lot(), is_shut=False))

    def test_later_changes(self):
        rows, table = [1, [2]], {"a": [1]}
        paper = Release(rows, ("x", table))
        rows[1].append(3)
        rows.append(4)
        table["a"].append(2)
        table["b"] = 1
        self.assertEqual((paper.number, paper.lot), ([1, [2]], ("x", {"a": [1]})))

    def test_denials_are_false(self):
        class Never(Denial):
            pass
        self.assertIs(bool(Never()), False)
        self.assertTrue(issubclass(Denial, Paper))

    def test_release(self):
        release = Release(Number(2, 0), Lot("b", "a"))
        self.assertEqual(["a" in release, "c" in release, 1 in release, len(release), list(release), str(release)],
                         [True, False, False, 2, ["a", "b"], "2.0 a b"])
        empty = Release(Number(6, 59), Lot())
        self.assertEqual([str(empty), len(empty), list(empty), bool(empty)], ["6.59 -", 0, [], True])


if __name__ == "__main__":
    unittest.main()

"""Word rules: points 3 to 8 and the section of the words."""

import random
import re
import unittest

from plainscan import errors
from plainscan.values import SIGNS
from plainscan.words import WordRule, plain_rule
from tests.calls import NO_OBJECTS, NO_STRINGS, NO_TUPLES, check_calls, given, indexed, raised

ALL_SIGNS = "".join(chr(code) for code in range(32, 127) if code != 37)
WITHOUT_SPACE = ALL_SIGNS[1:]
PLAIN = plain_rule()
FULL = ("abcx", (("A", "a"), ("-", "b")), "'. ", (("a", "", 1), ("ba", "c", 2)), ("ab", "b"))


def plain_reading(parts, text):
    """The row of a text, read in another way: the whole text first, then the words, then the endings."""
    letters, folds, drops, endings, dull = parts
    table = {ord(sign): sign for sign in ALL_SIGNS}
    table.update({ord(sign): became for sign, became in folds})
    text = text.translate(table)
    text = "".join(sign for sign in text if sign not in drops)
    text = "".join(sign if sign in letters else " " for sign in text)
    row = []
    for word in re.findall("[^ ]+", text):
        due = [one for one in endings if word.endswith(one[0]) and len(word[:-len(one[0])]) >= one[2]]
        if due:
            ending, put, _ = max(due, key=lambda one: len(one[0]))
            word = word[:-len(ending)] + put
        row.append(None if word in dull else word)
    return tuple(row)


def drawn_rule(draw):
    """The parts of a drawn rule with few letters and signs."""
    letters = "".join(draw.sample("abcA-", draw.randint(0, 4)))
    folds = tuple((sign, draw.choice("abcA-. '")) for sign in draw.sample("abcA-. 'BC", draw.randint(0, 6)))
    drops = "".join(sign for sign in draw.sample("abc'. -", draw.randint(0, 3)) if sign not in letters)

    def word(least, most):
        return "".join(draw.choice(letters) for _ in range(draw.randint(least, most)))

    endings, dull = (), ()
    if letters:
        put = {word(1, 3): (word(0, 2), draw.randint(1, 3)) for _ in range(draw.randint(0, 4))}
        endings = tuple((ending, *rest) for ending, rest in put.items())
        dull = tuple(sorted({word(1, 3) for _ in range(draw.randint(0, 3))}))
    return letters, folds, drops, endings, dull


class PartsTest(unittest.TestCase):
    def test_the_parts_are_kept(self):
        rule = WordRule(*FULL)
        self.assertEqual((rule.letters, rule.folds, rule.drops, rule.endings, rule.dull), FULL)
        self.assertEqual(rule.parts, FULL)

    def test_defaults_and_names(self):
        self.assertEqual(WordRule("ab").parts, ("ab", (), "", (), ()))
        named = WordRule(dull=FULL[4], endings=FULL[3], drops=FULL[2], folds=FULL[1], letters=FULL[0])
        self.assertEqual(named, WordRule(*FULL))

    def test_two_are_equal_exactly_if_the_parts_are(self):
        others = [("abxc", *FULL[1:]), (FULL[0], (), *FULL[2:]), (*FULL[:2], "'.", *FULL[3:]),
                  (*FULL[:3], (), FULL[4]), (*FULL[:4], ())]
        self.assertTrue(WordRule(*FULL) == WordRule(*FULL))
        self.assertFalse(WordRule(*FULL) != WordRule(*FULL))
        for parts in others:
            self.assertFalse(WordRule(*FULL) == WordRule(*parts))
            self.assertTrue(WordRule(*FULL) != WordRule(*parts))
        for value in (*NO_OBJECTS, FULL, Surly()):
            self.assertFalse(WordRule(*FULL) == value)
            self.assertTrue(WordRule(*FULL) != value)

    def test_rules_are_true(self):
        self.assertTrue(WordRule(""))

    def test_each_bound_just_at_it(self):
        letters = WITHOUT_SPACE[:40]
        folds = tuple((sign, " ") for sign in ALL_SIGNS[:60])
        drops = ALL_SIGNS[0] + WITHOUT_SPACE[40:79]
        endings = tuple((letters[at] * 6, letters[at] * (at % 7), 1 + at % 6) for at in range(12))
        dull = tuple(sorted(letters[at] * 12 for at in range(12)))
        self.assertEqual((len(letters), len(folds), len(drops)), (40, 60, 40))
        self.assertEqual(WordRule(letters, folds, drops, endings, dull).parts, (letters, folds, drops, endings, dull))

    def test_letters_and_signs_that_go_together(self):
        WordRule("ab", (("a", "a"), ("b", "q"), (" ", "a"), ("%"[:0] + "q", " ")), " ")
        WordRule("", (("a", "b"),), ALL_SIGNS[:40])


class Surly:
    """Comparing it from the left would fail."""
    def __eq__(self, other):
        raise RuntimeError


class WrongPartsTest(unittest.TestCase):
    def test_wrong_letters(self):
        no_letters = given(errors.InvalidLetters, *NO_STRINGS, WITHOUT_SPACE[:41], "aa", "a b", " ", "a%", "a\n", "\x7f")
        check_calls(self, WordRule, ("letters", "abcx", no_letters), ("folds", (), indexed(errors.InvalidFolds, None, [])),
                    ("drops", "", given(errors.InvalidDrops, 5)), ("endings", (), indexed(errors.InvalidEndings, None, 1)),
                    ("dull", (), indexed(errors.InvalidDull, None, "")))

    def test_wrong_folds(self):
        kind = errors.InvalidFolds
        many = tuple((sign, "a") for sign in ALL_SIGNS[:61])
        wrongs = [
            *indexed(kind, None, *NO_TUPLES),
            *indexed(kind, 0, ("ab",), (["A", "a"],), (("A", "a", "a"),), (("A",),), (("AB", "a"),), (("", "a"),), (None,),
                     (("A", ""),), (("A", "%"),), (("%", "a"),), (("A", "aa"),), ((b"A", "a"),), ((1, "a"),),
                     (("A", True),), ([], "x"), ((["A"], "a"),)),
            *indexed(kind, 1, (("A", "a"), ("A", "b")), (("A", "a"), ("A", "a")), (("A", "a"), 7, ("A", "b"))),
            *indexed(kind, 2, (("A", "a"), ("B", "a"), ("A", "c"), 5)),
            *indexed(kind, 60, many, many + (7,)),
            *indexed(kind, 59, many[:59] + (7,) + many[60:]),
        ]
        check_calls(self, WordRule, ("letters", "abcx", given(errors.InvalidLetters, " ")), ("folds", FULL[1], wrongs),
                    ("drops", "", given(errors.InvalidDrops, "a")))

    def test_wrong_drops(self):
        wrongs = given(errors.InvalidDrops, *NO_STRINGS, "..", "a", ".x", "%", ALL_SIGNS[:41], "\t")
        check_calls(self, WordRule, ("letters", "abcx", []), ("folds", (), indexed(errors.InvalidFolds, 0, (1,))),
                    ("drops", ".", wrongs), ("endings", (), indexed(errors.InvalidEndings, 0, (1,))))

    def test_wrong_endings(self):
        kind = errors.InvalidEndings
        unlike = [first + second for first in "abcx" for second in "abcx"]
        many = tuple((ending, "", 1) for ending in unlike[:13])
        wrongs = [
            *indexed(kind, None, *NO_TUPLES),
            *indexed(kind, 0, ("abc",), (["a", "", 1],), (("a", ""),), (("a", "", 1, 1),), (("", "", 1),), (1,),
                     (("a" * 7, "", 1),), (("a", "a" * 7, 1),), (("a", "", 0),), (("a", "", 7),), (("a", "", True),),
                     (("a", "", "1"),), (("y", "", 1),), (("ay", "", 1),), (("a", "y", 1),), (("a", None, 1),),
                     (("A", "", 1),), ((("a",), "", 1),)),
            *indexed(kind, 1, (("a", "", 1), ("a", "b", 2)), (("a", "", 1), None)),
            *indexed(kind, 12, many, many + (5,)),
            *indexed(kind, 11, many[:11] + (("q", "", 1),) + many[12:]),
        ]
        check_calls(self, WordRule, ("letters", "abcx", given(errors.InvalidLetters, None)), ("folds", (), []),
                    ("drops", "", given(errors.InvalidDrops, "a")), ("endings", (("aaaaaa", "bbbbbb", 6),), wrongs),
                    ("dull", ("a",), indexed(errors.InvalidDull, 0, ("A",))))

    def test_wrong_dull(self):
        kind = errors.InvalidDull
        many = tuple(sorted(first + second for first in "abcx" for second in "abcx"))[:13]
        wrongs = [
            *indexed(kind, None, *NO_TUPLES, ["a", "b"]),
            *indexed(kind, 0, ("",), (1,), (None,), ("A",), ("y",), ("a" * 13,), (("a",),), (b"a",), ("a b",)),
            *indexed(kind, 1, ("a", "a"), ("b", "a"), ("ab", "a"), ("a", "B", 3)),
            *indexed(kind, 2, ("a", "b", "ab", "ab")),
            *indexed(kind, 12, many, many + (1,)),
            *indexed(kind, 11, many[:11] + ("q",) + many[12:]),
        ]
        check_calls(self, WordRule, ("letters", "abcx", []), ("folds", (), []), ("drops", "", []),
                    ("endings", (), indexed(errors.InvalidEndings, None, [])), ("dull", ("a" * 12, "b"), wrongs))

    def test_what_is_no_letter_of_the_rule_is_wrong_in_endings(self):
        self.assertEqual(raised(WordRule, "", (), "", (("a", "", 1),)).index, 0)
        self.assertEqual(raised(WordRule, "", (), "", (), ("a",)).index, 0)


class ReadingTest(unittest.TestCase):
    def test_signs_of_the_program(self):
        self.assertEqual(SIGNS, ALL_SIGNS)

    def test_becomes(self):
        rule = WordRule("abx", (("A", "a"), ("B", "A"), ("x", "."), ("-", " "), ("_", "'")), "'.")
        came = {sign: rule.becomes(sign) for sign in ALL_SIGNS}
        told = {sign: letter for sign, letter in came.items() if letter is not None}
        # B is replaced once, and stays an A that parts; x is a letter that nothing becomes.
        self.assertEqual(told, {"a": "a", "b": "b", "A": "a", "x": "", ".": "", "'": "", "_": ""})

    def test_a_drop_may_be_the_space(self):
        self.assertEqual(WordRule("ab", (), " ").row("a b-a"), ("ab", "a"))
        self.assertEqual(WordRule("ab", ((" ", "a"),)).row("b b-"), ("bab",))

    def test_the_longest_ending_is_replaced_once(self):
        rule = WordRule("abc", (), "", (("a", "b", 1), ("ba", "", 2), ("cba", "aa", 3)))
        words = {"a": "a", "ba": "bb", "cba": "cbb", "ccba": "cc", "cccba": "ccc", "ccccba": "cccaa", "aa": "ab", "b": "b"}
        for word, term in words.items():
            self.assertEqual(rule.term(word), term)
            self.assertEqual(rule.row(f"-{word}- {word}"), (term, term))

    def test_a_shorter_ending_if_too_few_letters_are_ahead(self):
        rule = WordRule("abc", (), "", (("a", "c", 1), ("aaa", "b", 6)))
        self.assertEqual([rule.term("a" * many) for many in (1, 2, 8, 9)], ["a", "ac", "a" * 7 + "c", "a" * 6 + "b"])

    def test_a_term_is_dull_not_a_word(self):
        rule = WordRule("abc", (), "", (("c", "", 1),), ("ab", "bc"))
        self.assertEqual(rule.row("ab abc bc b"), (None, None, "b", "b"))
        self.assertEqual([rule.term("ab"), rule.term("abc"), rule.term("bc")], [None, None, "b"])

    def test_places(self):
        self.assertEqual(PLAIN.row(""), ())
        self.assertEqual(PLAIN.row("  The--the 'a' x"), (None, None, None, "x"))
        self.assertEqual(PLAIN.row("'''"), ())

    def test_long_texts_and_words(self):
        self.assertEqual(PLAIN.row("s" * 200), ("s" * 200,))
        self.assertEqual(PLAIN.row("x " * 100), ("x",) * 100)
        self.assertEqual(PLAIN.term("xs" * 100), ("xs" * 100)[:-1])
        self.assertEqual(len(WordRule("ab", (), "", (("b", "aaaaaa", 1),)).term("b" * 200)), 205)

    def test_drawn_rules_and_texts(self):
        draw = random.Random(8)
        for _ in range(400):
            parts = drawn_rule(draw)
            rule = WordRule(*parts)
            for _ in range(25):
                text = "".join(draw.choice("abcABC-.' ") for _ in range(draw.randint(0, 14)))
                row = plain_reading(parts, text)
                self.assertEqual(rule.row(text), row)
                self.assertEqual(rule.row(text=text), rule.row(text))

    def test_drawn_texts_by_the_plain_rule(self):
        draw = random.Random(9)
        for _ in range(500):
            text = "".join(draw.choice(ALL_SIGNS + "sses' TheANof  ") for _ in range(draw.randint(0, 200)))
            self.assertEqual(PLAIN.row(text), plain_reading(PLAIN.parts, text))

    def test_wrong_texts(self):
        wrongs = given(errors.InvalidText, *NO_STRINGS, "a" * 201, "%", "50 % off", "a\nb", "\x1f", "\x7f", "\u00e9")
        check_calls(self, PLAIN.row, ("text", "a" * 200, wrongs))

    def test_wrong_signs(self):
        wrongs = given(errors.InvalidText, *NO_STRINGS, "", "ab", "%", "\n", "\x7f")
        check_calls(self, PLAIN.becomes, ("sign", "~", wrongs))
        check_calls(self, PLAIN.becomes, ("sign", " ", wrongs))

    def test_wrong_words(self):
        wrongs = given(errors.InvalidTerm, *NO_STRINGS, "", "A", "a b", "a'", "%", "a" * 201, "a\n")
        check_calls(self, PLAIN.term, ("word", "a" * 200, wrongs))
        check_calls(self, WordRule("AB").term, ("word", "AB", given(errors.InvalidTerm, "a", "ABC")))

    def test_nothing_changes(self):
        rule = plain_rule()
        rows = [rule.row("The cities"), rule.row("The cities")]
        self.assertEqual(rows[0], rows[1])
        raised(rule.row, 5)
        self.assertEqual(rule, plain_rule())


class PlainRuleTest(unittest.TestCase):
    def test_its_parts(self):
        small = "abcdefghijklmnopqrstuvwxyz"
        self.assertEqual(PLAIN.letters, small + "0123456789")
        self.assertEqual(PLAIN.folds, tuple((letter.upper(), letter) for letter in small))
        self.assertEqual(PLAIN.drops, "'")
        self.assertEqual(PLAIN.endings, (("ies", "y", 2), ("s", "", 3), ("ss", "ss", 1)))
        self.assertEqual(PLAIN.dull, ("a", "an", "of", "the"))

    def test_two_of_them_are_equal(self):
        self.assertEqual(plain_rule(), plain_rule())


if __name__ == "__main__":
    unittest.main()

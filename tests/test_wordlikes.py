"""Whether word rules read alike: point 9 and the section of the wordlikes."""

import random
import unittest
from itertools import product

from plainscan import errors
from plainscan.wordlikes import parting_text, read_alike
from plainscan.words import WordRule, plain_rule
from tests.calls import NO_OBJECTS, check_calls, given
from tests.test_words import ALL_SIGNS, plain_reading


def is_text(value):
    return type(value) is str and len(value) <= 200 and all(sign in ALL_SIGNS for sign in value)


def all_words(letters, longest):
    for length in range(1, longest + 1):
        for word in product(letters, repeat=length):
            yield "".join(word)


def texts_of(signs, longest):
    """Texts to try: all short words of some signs, long ones, and each sign alone, often, and between long words."""
    texts = list(all_words(signs, longest))
    for sign in ALL_SIGNS:
        texts.append(sign * 20)
        texts.extend(first * 20 + sign + second * 20 for first in signs for second in signs)
    draw = random.Random(len(signs))
    texts.extend("".join(draw.choice(signs) for _ in range(draw.randint(longest, 22))) for _ in range(60))
    return texts


def with_tails(rules, signs):
    """Long words that end with the endings of some rules, or come of their dull terms."""
    words = []
    for rule in rules:
        for ending, put, least in rule.endings:
            for sign in signs:
                words.extend(sign * ahead + ending for ahead in range(0, 14))
            for term in rule.dull:
                if term.endswith(put):
                    words.append(term[:len(term) - len(put)] + ending)
        words.extend(rule.dull)
    return words


def drawn_word(draw, letters, least, most):
    return "".join(draw.choice(letters) for _ in range(draw.randint(least, most)))


def drawn_parts(draw, letters, longest):
    endings = {drawn_word(draw, letters, 1, longest): (drawn_word(draw, letters, 0, longest), draw.randint(1, 6))
               for _ in range(draw.randint(0, 4))}
    endings = tuple((ending, *rest) for ending, rest in endings.items())
    dull = tuple(sorted({drawn_word(draw, letters, 1, draw.choice((2, 3, 12))) for _ in range(draw.randint(0, 12))}))
    return [letters, (), "", endings, dull]


def drawn_neighbour(draw, parts, longest):
    """Parts that are nearly the same, and perhaps read alike."""
    letters, folds, drops, endings, dull = parts
    what = draw.randint(0, 7)
    if what == 0 and endings:
        at = draw.randrange(len(endings))
        ending, put, least = endings[at]
        changed = draw.choice(((ending, put, draw.randint(1, 6)), (ending, drawn_word(draw, letters, 0, longest), least)))
        endings = endings[:at] + (changed,) + endings[at + 1:]
    elif what == 1 and endings:
        at = draw.randrange(len(endings))
        endings = endings[:at] + endings[at + 1:]
    elif what == 2 and endings:
        ending, put, least = draw.choice(endings)
        longer = draw.choice(letters) + ending
        if len(longer) <= 6 and longer not in [one[0] for one in endings] and len(put) < 6:
            endings += ((longer, longer[0] + put, draw.randint(max(1, least - 1), least)),)
    elif what == 3 and len(dull) < 12:
        dull = tuple(sorted({*dull, drawn_word(draw, letters, 1, 4)}))
    elif what == 4 and dull:
        dull = tuple(term for term in dull if term != draw.choice(dull))
    elif what == 5:
        letters, drops = letters[::-1], "!"
    elif what == 6:
        folds = ((draw.choice("ABab- "), draw.choice(letters + "- ")),)
    else:
        endings = tuple(draw.sample(endings, len(endings)))
    return [letters, folds, drops, endings, dull]


class TrialTest(unittest.TestCase):
    def compare(self, one, two, texts):
        """Compares what is told of two rules with a trial of texts, in both directions."""
        rule, other = WordRule(*one), WordRule(*two)
        found = [parting_text(rule, other), parting_text(other, rule)]
        alike = [read_alike(rule, other), read_alike(other, rule)]
        self.assertEqual(alike, [text is None for text in found], (one, two))
        for text in found:
            if text is not None:
                self.assertTrue(is_text(text))
                self.assertNotEqual(plain_reading(one, text), plain_reading(two, text), (one, two, text))
        if alike == [True, True]:
            for text in [*texts, *with_tails((rule, other), one[0])]:
                self.assertEqual(rule.row(text), other.row(text), (one, two, text))
        self.assertEqual(alike[0], alike[1])
        return alike[0]

    def drawn_pairs(self, seed, letters, longest, many, texts):
        draw = random.Random(seed)
        told = []
        for _ in range(many):
            one = drawn_parts(draw, letters, longest)
            two = drawn_neighbour(draw, one, longest)
            if draw.random() < 0.3:
                two = drawn_neighbour(draw, two, longest)
            told.append(self.compare(one, two, texts))
        # Both answers come up, so that the trial means something.
        self.assertGreater(told.count(True), many // 10)
        self.assertGreater(told.count(False), many // 10)

    def test_rules_of_one_letter(self):
        self.drawn_pairs(1, "a", 6, 500, ["a" * many for many in range(1, 40)] + texts_of("a", 3))

    def test_rules_of_two_letters(self):
        self.drawn_pairs(2, "ab", 3, 250, texts_of("ab", 7))

    def test_rules_of_two_letters_with_long_endings(self):
        self.drawn_pairs(3, "ab", 6, 150, texts_of("ab", 6) + [word + word for word in all_words("ab", 7)])

    def test_rules_of_three_letters(self):
        self.drawn_pairs(4, "abc", 2, 150, texts_of("abc", 5))

    def test_signs_of_all_kinds(self):
        kinds = [(), (("-", "a"),), (("-", "b"),), (("-", "'"),), (("-", "."),), (("-", "x"),), (("a", "-"),)]
        texts = ["-", "a-b", "-" * 20, "b" * 20 + "-" + "a" * 20]
        for folds in kinds:
            for other in kinds:
                self.compare(["ab", folds, "'", (), ()], ["ab", other, "'", (), ()], texts)

    def test_dull_signs_that_part(self):
        # Each text of few signs has dull terms only by both rules.
        self.compare(["ab", (), "", (), ("a", "aa", "b", "bb")], ["a", (), "", (), ("a", "aa")], ["b", "a"])


class EdgesTest(unittest.TestCase):
    def parted(self, one, two):
        text = parting_text(one, two)
        self.assertEqual(text is None, read_alike(one, two))
        return None if text is None else (one.row(text), two.row(text))

    def test_a_rule_reads_like_itself(self):
        self.assertTrue(read_alike(plain_rule(), plain_rule()))
        self.assertIsNone(parting_text(plain_rule(), plain_rule()))

    def test_no_live_letters(self):
        dead = WordRule("a", (("a", "-"),), "", (("a", "aa", 1),), ("a",))
        self.assertTrue(read_alike(dead, WordRule("", (), ALL_SIGNS[:40])))
        self.assertTrue(read_alike(WordRule(""), dead))
        self.assertFalse(read_alike(WordRule("a"), dead))

    def test_dead_letters_do_not_matter_but_for_what_is_put(self):
        folds = (("z", "-"),)
        one = WordRule("az", folds, "", (("z", "a", 1), ("az", "", 1)), ("z", "zz"))
        self.assertTrue(read_alike(one, WordRule("a")))
        put = WordRule("az", folds, "", (("a", "z", 1),), ("aaz",))
        self.assertEqual(len(self.parted(put, WordRule("az", folds, "", (("a", "z", 1),)))), 2)
        self.assertEqual(put.row("aaa aa"), (None, "az"))

    def test_a_sign_left_out_or_parting(self):
        rows = self.parted(WordRule("a", (), "-"), WordRule("a"))
        self.assertEqual([len(row) for row in rows], [1, 2])
        self.assertTrue(read_alike(WordRule("", (), "-"), WordRule("")))

    def test_the_number_least_at_each_bound(self):
        for least in range(1, 6):
            for ending in ("a", "aaaaaa"):
                one = WordRule("ab", (), "", ((ending, "b", least),))
                two = WordRule("ab", (), "", ((ending, "b", least + 1),))
                self.assertIsNotNone(self.parted(one, two))

    def test_an_ending_hidden_by_longer_ones(self):
        # Each word that ends with a and is long enough ends with aa or ba, too.
        one = WordRule("ab", (), "", (("a", "bbb", 2), ("aa", "", 1), ("ba", "", 1)))
        two = WordRule("ab", (), "", (("a", "", 3), ("aa", "", 1), ("ba", "", 1)))
        self.assertTrue(read_alike(one, two))
        three = WordRule("ab", (), "", (("a", "", 1), ("aa", "", 1), ("ba", "", 1)))
        self.assertIsNotNone(self.parted(one, three))

    def test_hidden_with_six_letters(self):
        letters = "ab"
        longer = [(first + "aaaaa", first, 1) for first in letters]
        one = WordRule(letters, (), "", (("aaaaa", "b", 2), *longer))
        two = WordRule(letters, (), "", (("aaaaa", "bb", 2), *longer))
        self.assertTrue(read_alike(one, two))
        two = WordRule(letters, (), "", (("aaaaa", "bb", 1), *longer))
        self.assertIsNotNone(self.parted(one, two))

    def test_a_dull_term_of_one_long_word(self):
        dull = "ab" * 6
        one = WordRule("ab", (), "", (("bbbbbb", "", 6),), (dull,))
        two = WordRule("ab", (), "", (("bbbbbb", "", 6),))
        self.assertIsNotNone(self.parted(one, two))
        # Nothing has the dull term: what ends so is always replaced.
        one = WordRule("ab", (), "", (("b", "bb", 1), ("a", "b", 1)), ("aaba",))
        self.assertTrue(read_alike(one, WordRule("ab", (), "", (("b", "bb", 1), ("a", "b", 1)))))

    def test_unlike_terms_that_are_dull_in_both(self):
        both = ("a", "aa", "b", "bb", "ab", "ba")
        folded = [(sign, "-") for sign in "cd"]
        one = WordRule("abcd", tuple(folded), "", (("a", "c", 1),), tuple(sorted(both + ("ac", "bc"))))
        two = WordRule("abcd", tuple(folded), "", (("a", "d", 1),), tuple(sorted(both + ("ad", "bd"))))
        rows = self.parted(one, two)
        self.assertGreater(len(rows[0][0]), 2)

    def test_thirteen_words_are_needed(self):
        # The ending d alone is replaced in the words of three letters only, and twelve of these sixteen are dull.
        folds = (("x", "-"), ("y", "-"))
        covered = tuple((letter + "d", "", 2) for letter in "abcd")
        for first, second in (("abcd", "abc"), ("abc", "abcd"), ("abcd", "bcd"), ("bcd", "abcd")):
            begins = sorted(one + two for one in first for two in second)
            one = WordRule("abcdxy", folds, "", (("d", "x", 2), *covered), tuple(begin + "x" for begin in begins))
            two = WordRule("abcdxy", folds, "", (("d", "y", 2), *covered), tuple(begin + "y" for begin in begins))
            self.assertIsNotNone(self.parted(one, two))
            self.assertIsNotNone(self.parted(two, one))

    def test_few_of_many_words_part(self):
        # Of the words that end with e only those that end with ee have unlike terms.
        folds = (("x", "-"), ("y", "-"))
        for letters in ("abcde", "vwzfe"):
            alike = tuple((letter + "e", letter + "x", 1) for letter in letters[:4])
            one = WordRule(letters + "xy", folds, "", (("e", "x", 2),))
            two = WordRule(letters + "xy", folds, "", (("e", "y", 2), *alike))
            self.assertIsNotNone(self.parted(one, two))
            self.assertIsNotNone(self.parted(two, one))
            last = (letters[4] + "e", letters[4] + "x", 1)
            self.assertTrue(read_alike(one, WordRule(letters + "xy", folds, "", (("e", "y", 2), *alike, last))))

    def test_large_rules(self):
        letters = ALL_SIGNS[1:41]
        endings = tuple((letters[at:at + 6], letters[at], 6) for at in range(12))
        dull = tuple(sorted(letters[at] * 12 for at in range(12)))
        one = WordRule(letters, (), "", endings, dull)
        self.assertTrue(read_alike(one, WordRule(letters[::-1], (), "", endings[::-1], dull)))
        changed = endings[:11] + ((endings[11][0], endings[11][1], 5),)
        self.assertIsNotNone(self.parted(one, WordRule(letters, (), "", changed, dull)))
        self.assertIsNotNone(self.parted(one, WordRule(letters, (), "", endings, dull[1:])))

    def test_equal_calls_return_equal_results(self):
        one, two = WordRule("ab"), WordRule("ab", (), "", (("b", "", 1),))
        self.assertEqual(parting_text(one, two), parting_text(one, two))


class WrongTest(unittest.TestCase):
    def test_wrong_rules(self):
        wrongs = given(errors.NotAWordRule, *NO_OBJECTS, plain_rule().parts)
        for call in (read_alike, parting_text):
            check_calls(self, call, ("rule", plain_rule(), wrongs), ("other", WordRule(""), wrongs))


if __name__ == "__main__":
    unittest.main()

"""Windows, spots and excerpts: points 47 and 48, with 7 and 8, and the section of the windows."""

import random
import re
import unittest

from plainscan import errors
from plainscan.questions import holds
from plainscan.windows import cut_out, excerpt, is_shown, is_window, least_window, spots
from plainscan.words import WordRule, plain_rule
from tests.calls import NO_NUMBERS, NO_OBJECTS, NO_STRINGS, check_calls, given, raised
from tests.test_questions import CAT, DOG, NO_QUESTIONS, NO_ROWS, drawn_questions, drawn_row, plain_bears, plain_holds
from tests.test_words import ALL_SIGNS, drawn_rule, plain_reading

PLAIN = plain_rule()
HEAD, BODY = ("dog",), ("cat", "red", None, "cat", "dog", "cat")
NO_BOUNDS = (*(value for value in NO_NUMBERS if value != 10 ** 59), 10 ** 59)


def no_stretches(length):
    """What is no stretch of a row of a length above 1."""
    return (*NO_OBJECTS, (), (0,), (0, 1, 2), [0, 1], (1, 1), (1, 0), (length, length), (0, length + 1), (length, length + 1), (-1, 1),
            (0, -1), ((0, 1), 1), "ab", *((first, length) for first in NO_BOUNDS), *((0, last) for last in NO_BOUNDS))


def stretches(length):
    """All stretches of a row."""
    return [(0, 0)] + [(first, last) for first in range(length) for last in range(first + 1, length + 1)]


def plain_cut(row, stretch):
    return tuple(term if stretch[0] <= place < stretch[1] else None for place, term in enumerate(row))


def plain_shown(question, rows, cut):
    """Whether a question is shown, each standing by the rows that judge it."""
    kind, inner = question[0], question[1]
    if kind == "not":
        return not plain_holds(inner, *rows)
    if kind in ("all", "any"):
        found = [plain_shown(part, rows, cut) for part in inner]
        return False not in found if kind == "all" else True in found
    return True in [plain_bears(question, row) for field, row in zip(("head", "body"), cut) if inner in (field, "any")]


def all_windows(head, body):
    return [(one, two) for one in stretches(len(head)) for two in stretches(len(body))]


def windows_that_show(question, head, body):
    cuts = {(0, stretch): plain_cut(head, stretch) for stretch in stretches(len(head))}
    cuts.update({(1, stretch): plain_cut(body, stretch) for stretch in stretches(len(body))})
    return [(one, two) for one, two in all_windows(head, body)
            if plain_shown(question, (head, body), (cuts[0, one], cuts[1, two]))]


def places(window):
    return sum(last - first for first, last in window)


def within(inner, outer):
    return all(one == (0, 0) or two[0] <= one[0] and one[1] <= two[1] for one, two in zip(inner, outer))


class IsWindowTest(unittest.TestCase):
    def test_all_windows(self):
        for head in ((), ("a",), ("a", None, "b")):
            for body in ((), ("a",), ("a", None, "b", "b")):
                told = set(all_windows(head, body))
                for numbers in ((one, two) for one in range(-1, 6) for two in range(-1, 6)):
                    for others in ((0, 0), (0, 1), (1, 3), (0, 4), (0, 5)):
                        for window in ((numbers, others), (others, numbers)):
                            self.assertIs(is_window(head, body, window), window in told)
                            self.assertIs(is_window(value=window, body=body, head=head), window in told)

    def test_values_of_all_kinds(self):
        for value in (*NO_OBJECTS, (), ((0, 0),), ((0, 0), (0, 0), (0, 0)), [(0, 0), (0, 0)], "ab"):
            self.assertIs(is_window(HEAD, BODY, value), False, value)
        for value in no_stretches(2):
            self.assertIs(is_window(HEAD * 2, BODY, (value, (0, 0))), False, value)
            self.assertIs(is_window(BODY, HEAD * 2, ((0, 0), value)), False, value)

    def test_wrong_rows(self):
        no_rows = given(errors.InvalidRow, *NO_ROWS)
        check_calls(self, is_window, ("head", HEAD, no_rows), ("body", BODY, no_rows), ("value", 7, []))


class CutOutTest(unittest.TestCase):
    def test_all_windows(self):
        for window in all_windows(HEAD, BODY):
            rows = (plain_cut(HEAD, window[0]), plain_cut(BODY, window[1]))
            self.assertEqual(cut_out(HEAD, BODY, window), rows)
            self.assertEqual(cut_out(window=window, body=BODY, head=HEAD), rows)
        self.assertEqual(cut_out((), (), ((0, 0), (0, 0))), ((), ()))
        self.assertEqual(cut_out(("a",) * 400, (), ((0, 400), (0, 0))), (("a",) * 400, ()))

    def test_wrong(self):
        no_rows = given(errors.InvalidRow, *NO_ROWS)
        wrongs = given(errors.InvalidWindow, *NO_OBJECTS, ((0, 0),), [(0, 0), (0, 0)], *((value, (0, 0)) for value in no_stretches(1)),
                       *(((0, 0), value) for value in no_stretches(6)))
        arguments = (("head", HEAD, no_rows), ("body", BODY, no_rows), ("window", ((0, 1), (0, 6)), wrongs))
        check_calls(self, cut_out, *arguments)
        check_calls(self, is_shown, ("question", CAT, given(errors.InvalidQuestion, *NO_QUESTIONS)), *arguments)
        check_calls(self, least_window, ("question", CAT, given(errors.InvalidQuestion, *NO_QUESTIONS)), *arguments[:2])


class ShownTest(unittest.TestCase):
    def test_open_standings_by_what_is_cut_out(self):
        both = ("all", (CAT, ("not", ("word", "body", "red"))))
        self.assertFalse(is_shown(both, HEAD, BODY, ((0, 0), (3, 4))))
        self.assertTrue(is_shown(CAT, HEAD, BODY, ((0, 0), (3, 4))))
        self.assertFalse(is_shown(CAT, HEAD, BODY, ((0, 1), (1, 3))))
        # With a not around it, even with two, a standing is judged by the whole rows.
        self.assertTrue(is_shown(("not", ("not", CAT)), HEAD, BODY, ((0, 0), (0, 0))))
        twice = ("all", (("not", ("not", CAT)), CAT))
        self.assertFalse(is_shown(twice, HEAD, BODY, ((0, 0), (0, 0))))
        self.assertTrue(is_shown(twice, HEAD, BODY, ((0, 0), (0, 1))))

    def test_an_atom_that_stands_open_and_with_a_not(self):
        question = ("any", (("not", CAT), CAT))
        for window in all_windows(HEAD, BODY):
            self.assertIs(is_shown(question, HEAD, BODY, window), "cat" in cut_out(HEAD, BODY, window)[1])
            self.assertIs(is_shown(question, HEAD, (), ((0, 0), (0, 0))), True)

    def test_drawn_rows_and_questions(self):
        draw = random.Random(47)
        told = []
        for question in drawn_questions(draw, 200):
            head, body = drawn_row(draw, 3), drawn_row(draw, 5)
            shown = set(windows_that_show(question, head, body))
            for window in all_windows(head, body):
                told.append(window in shown)
                self.assertIs(is_shown(question, head, body, window), told[-1])
            self.assertIs(is_shown(window=((0, 0), (0, 0)), body=body, head=head, question=question), ((0, 0), (0, 0)) in shown)
        self.assertGreater(told.count(True), 1000)
        self.assertGreater(told.count(False), 1000)

    def test_what_a_window_shows_each_wider_one_shows(self):
        draw = random.Random(48)
        for question in drawn_questions(draw, 60):
            head, body = drawn_row(draw, 2), drawn_row(draw, 3)
            told = {window: is_shown(question, head, body, window) for window in all_windows(head, body)}
            self.assertIs(True in told.values(), holds(question, head, body))
            for inner, outer in ((inner, outer) for inner in told for outer in told if within(inner, outer)):
                self.assertLessEqual(told[inner], told[outer])


class LeastWindowTest(unittest.TestCase):
    def compare(self, question, head, body):
        shown = windows_that_show(question, head, body)
        least = min(shown, key=lambda window: (places(window), window)) if shown else None
        self.assertEqual(least_window(question, head, body), least)
        self.assertIs(least is None, not holds(question, head, body))
        return least

    def test_drawn_rows_and_questions(self):
        draw = random.Random(49)
        told = []
        for question in drawn_questions(draw, 400):
            told.append(self.compare(question, drawn_row(draw, 5), drawn_row(draw, 6)))
        for question in drawn_questions(draw, 60):
            told.append(self.compare(question, drawn_row(draw, 3), drawn_row(draw, 9)))
        self.assertGreater(len(told) - told.count(None), 100)
        self.assertEqual(least_window(body=BODY, head=HEAD, question=CAT), ((0, 0), (0, 1)))

    def test_few_terms_and_many_open_atoms(self):
        draw = random.Random(50)

        def atom(one):
            field = one.choice(("any", "any", "head", "body"))
            kind = one.choice(("word", "near", "row"))
            if kind == "word":
                return (kind, field, one.choice("abc"))
            if kind == "row":
                return (kind, field, (one.choice("abc"), one.choice("abc")))
            return (kind, field, one.choice("abc"), one.choice("abc"), one.randint(1, 4))
        told = []
        for _ in range(200):
            parts = [atom(draw) for _ in range(draw.randint(2, 5))]
            question = ("all", tuple(parts[:-1]) + (("any", (parts[-1], atom(draw))),))
            head, body = (tuple(draw.choice(("a", "b", "c", None, "d")) for _ in range(length)) for length in (5, 8))
            told.append(self.compare(question, head, body))
        self.assertGreater(len([one for one in told if one and places(one) > 3]), 20)
        self.assertGreater(len([one for one in told if one and one[0] != (0, 0) != one[1]]), 20)

    def test_fewest_places_go_ahead_then_the_head_then_the_body(self):
        self.assertEqual(self.compare(CAT, ("cat",), ("cat",)), ((0, 0), (0, 1)))
        self.assertEqual(self.compare(("all", (CAT, ("word", "any", "dog"))), ("dog", "cat"), ("cat", "dog")), ((0, 0), (0, 2)))
        self.assertEqual(self.compare(CAT, (), (None, "cat", "cat")), ((0, 0), (1, 2)))
        self.assertEqual(self.compare(("near", "any", "a", "b", 3), ("a", None, "b"), ("x", "b", "a")), ((0, 0), (1, 3)))
        self.assertEqual(self.compare(("near", "head", "a", "a", 3), ("a", None, "a", "a"), ()), ((2, 4), (0, 0)))
        self.assertEqual(self.compare(("all", (DOG, CAT)), ("dog", "cat"), ("cat",)), ((0, 1), (0, 1)))

    def test_the_empty_window(self):
        for question in (("not", CAT), ("not", ("not", DOG)), ("any", (DOG, ("not", CAT)))):
            self.assertEqual(self.compare(question, ("dog",), ("red",)), ((0, 0), (0, 0)))
        self.assertIsNone(self.compare(CAT, (), ()))
        self.assertEqual(self.compare(("not", CAT), (), ()), ((0, 0), (0, 0)))

    def test_rows_of_four_hundred_places(self):
        row = (None,) * 399 + ("cat",)
        self.assertEqual(least_window(CAT, row, row), ((0, 0), (399, 400)))
        self.assertEqual(least_window(("all", (("word", "head", "cat"), CAT)), row, row), ((399, 400), (0, 0)))
        body = ("dog",) + (None,) * 398 + ("cat",)
        both = ("all", (CAT, ("word", "any", "dog")))
        self.assertEqual(least_window(both, (), body), ((0, 0), (0, 400)))
        self.assertEqual(least_window(both, body, ("cat",)), ((0, 1), (0, 1)))
        self.assertEqual(least_window(CAT, ("dog",) * 400, ("dog",) * 400), None)
        near = ("near", "body", "cat", "dog", 6)
        self.assertEqual(least_window(near, (), (None,) * 393 + ("cat",) + (None,) * 5 + ("dog",)), ((0, 0), (393, 400)))

    def test_drawn_long_rows(self):
        draw = random.Random(51)
        for question in drawn_questions(draw, 30):
            head, body = drawn_row(draw, 400), drawn_row(draw, 400)
            window = least_window(question, head, body)
            self.assertIs(window is not None, plain_holds(question, head, body))
            if window is not None:
                cut = tuple(plain_cut(row, stretch) for row, stretch in zip((head, body), window))
                self.assertTrue(plain_shown(question, (head, body), cut))
                self.assertTrue(is_shown(question, head, body, window))


def plain_spots(parts, text):
    """The spots by a look at what each sign becomes, and a pattern over these."""
    letters, folds, drops = parts[:3]
    marks = ""
    for sign in text:
        became = dict(folds).get(sign, sign)
        marks += "d" if became in drops else "L" if became in letters else "|"
    return tuple(found.span() for found in re.finditer("L(?:[Ld]*L)?", marks))


class SpotsTest(unittest.TestCase):
    def test_signs_that_are_left_out(self):
        told = {"": (), "cat": ((0, 3),), " cat ": ((1, 4),), "'cat'": ((1, 4),), "c'a't": ((0, 5),), "a ' b": ((0, 1), (4, 5)), "'''": (),
                "a'-'b": ((0, 1), (4, 5)), "-a": ((1, 2),), "A B": ((0, 1), (2, 3))}
        for text, expected in told.items():
            self.assertEqual(spots(PLAIN, text), expected)
            self.assertEqual(spots(text=text, rule=PLAIN), expected)

    def check(self, rule, text):
        found = spots(rule, text)
        self.assertEqual(found, plain_spots(rule.parts, text))
        row = plain_reading(rule.parts, text)
        self.assertEqual(len(found), len(row))
        for first, last in [(0, 0)] + [(first, last) for first in range(len(row)) for last in range(first + 1, len(row) + 1)]:
            told = excerpt(rule, text, (first, last))
            self.assertEqual(told, text[found[first][0]:found[last - 1][1]] if last else "")
            self.assertEqual(rule.row(told), row[first:last])
            self.assertEqual(plain_reading(rule.parts, told), row[first:last])

    def test_drawn_rules_and_texts(self):
        draw = random.Random(52)
        for _ in range(200):
            rule = WordRule(*drawn_rule(draw))
            for _ in range(6):
                self.check(rule, "".join(draw.choice("abcABC-.' ") for _ in range(draw.randint(0, 16))))

    def test_drawn_texts_by_the_plain_rule(self):
        draw = random.Random(53)
        for _ in range(12):
            self.check(PLAIN, "".join(draw.choice(ALL_SIGNS + "sses' TheANof  ") for _ in range(draw.randint(0, 200))))

    def test_the_longest_texts(self):
        self.assertEqual(spots(PLAIN, "a" * 200), ((0, 200),))
        self.assertEqual(spots(PLAIN, "a " * 100), tuple((2 * at, 2 * at + 1) for at in range(100)))
        self.assertEqual(excerpt(PLAIN, "a " * 100, (0, 100)), ("a " * 100)[:-1])
        self.assertEqual(excerpt(PLAIN, "a " * 100, (99, 100)), "a")

    def test_wrong(self):
        rule = ("rule", PLAIN, given(errors.NotAWordRule, *NO_OBJECTS, PLAIN.parts))
        text = ("text", "The cat", given(errors.InvalidText, *NO_STRINGS, "a" * 201, "50%", "a\n"))
        check_calls(self, spots, rule, text)
        check_calls(self, excerpt, rule, text, ("stretch", (0, 2), given(errors.InvalidWindow, *no_stretches(2))))
        self.assertIs(type(raised(excerpt, PLAIN, "", (0, 1))), errors.InvalidWindow)
        self.assertEqual(excerpt(stretch=(1, 2), text="The cat", rule=PLAIN), "cat")


if __name__ == "__main__":
    unittest.main()

"""What one question finds for all rows: point 22 and the section of the questionlikes."""

import random
import unittest
from itertools import product

from plainscan import errors
from plainscan.questionlikes import (
    finds_no_more, finds_same, looks_of, parting_rows, row_states, state_of)
from plainscan.questions import is_question, is_row
from tests.calls import check_calls, given, raised
from tests.test_questions import (
    CAT, DOG, NO_QUESTIONS, NO_ROWS, counted, drawn_atom, drawn_question, drawn_row, plain_bears, plain_holds)

NEAR = ("near", "any", "a", "b", 4)
WORDS = tuple(("word", "any", term) for term in ("x", "y", "z"))
CHAINS = tuple(("starts", "any", sign * many) for sign in "cd" for many in (1, 2, 3, 4))
FACTORS = (NEAR, *WORDS, *CHAINS)
# Ten states of the near, two of each word, five of each chain of beginnings: 2000 in all.
FULL = (("any", FACTORS[:6]), ("all", FACTORS[6:]))
# The same states once more, drawn until there were just as many as that, and one more.
DRAWN_FULL = (
    ("any", (("word", "any", "ab"), ("row", "any", ("abc", "abc", "c")), ("near", "any", "a", "b", 3),
             ("near", "any", "d", "a", 1), ("word", "any", "c"), ("starts", "any", "ab"))),
    ("all", (("near", "any", "a", "b", 3), ("word", "any", "a"), ("row", "any", ("b", "ab")), ("near", "any", "abc", "a", 2),
             ("row", "any", ("c", "ab", "d", "ab")), ("row", "any", ("abc", "a", "b")))))
ONE_MORE = (
    ("any", (("near", "any", "d", "c", 5), ("starts", "any", "c"), ("near", "any", "abc", "abc", 5),
             ("near", "any", "abc", "ab", 3), ("row", "any", ("d", "a", "abc", "c")), ("row", "any", ("c", "b", "d")))),
    ("all", (("row", "any", ("abc", "a", "c", "ab")), ("row", "any", ("b", "abc", "c")))))


def all_looks(question, other):
    """The looks of two questions, by a walk through both."""
    found = []

    def walk(part):
        if part[0] == "not":
            walk(part[1])
        elif part[0] in ("all", "any"):
            for inner in part[1]:
                walk(inner)
        elif (part[0], *part[2:]) not in found:
            found.append((part[0], *part[2:]))
    walk(question)
    walk(other)
    return tuple(found)


def looked_state(look, row):
    """The state of a look, by a look at the places of the whole row."""
    kind, *told = look
    if plain_bears((kind, "any", *told), row):
        return len(told[0]) if kind == "row" else (9, 9) if kind == "near" else 1
    if kind == "row":
        return max(many for many in range(len(told[0])) if many <= len(row) and row[len(row) - many:] == told[0][:many])
    if kind == "near":
        return tuple(min([ago for ago in range(1, told[2] + 1) if ago <= len(row) and row[-ago] == term], default=0)
                     for term in told[:2])
    return 0


def looked(question, other, row):
    return tuple(looked_state(look, row) for look in all_looks(question, other))


def standing(question, other):
    """What can stand at a place, with several other terms for each prefix."""
    found = [None, "other", "~"]
    for kind, *told in all_looks(question, other):
        if kind == "row":
            found.extend(told[0])
        elif kind == "near":
            found.extend(told[:2])
        else:
            found.append(told[0])
            found.append(told[0] + "-x")
    return list(dict.fromkeys(found))


def walked(question, other, most=3000):
    """All states of rows, by rows that grow, each looked at as a whole; a row for each state."""
    things = standing(question, other)
    rows, queue = {looked(question, other, ()): ()}, [()]
    for row in queue:
        for thing in things:
            longer = row + (thing,)
            state = looked(question, other, longer)
            if state not in rows and len(rows) < most:
                rows[state] = longer
                queue.append(longer)
    return rows


def small_atom(draw):
    return drawn_atom(draw, ("a", "b", "ab"), ("a", "ab"))


def few_atom(draw):
    """An atom of which short rows reach all states."""
    field = draw.choice(("head", "body", "any"))
    kind = draw.choice(("word", "starts", "row", "near"))
    if kind == "row":
        return (kind, field, tuple(draw.choice("ab") for _ in range(2)))
    if kind == "near":
        return (kind, field, draw.choice("ab"), draw.choice("ab"), 1)
    return (kind, field, draw.choice("ab"))


def drawn_pair(draw, make, most=4):
    """Two drawn questions of few atoms, the second one often near to the first one."""
    while True:
        question, other = drawn_question(draw, 3, make), drawn_question(draw, 3, make)
        if draw.random() < 0.6:
            other = draw.choice((("any", (question, other)), ("all", (question, other)), ("not", ("not", question)),
                                 ("all", (other, ("not", question)))))
        pair = (question, other) if draw.random() < 0.5 else (other, question)
        if all(is_question(one) and counted(one)[1] <= most for one in pair):
            return pair


class StatesTest(unittest.TestCase):
    def test_looks(self):
        question = ("any", (("word", "head", "a"), ("not", ("row", "any", ("a", "b"))), ("word", "any", "a")))
        other = ("all", (("starts", "head", "a"), ("near", "any", "a", "b", 2), ("row", "head", ("a", "b"))))
        self.assertEqual(looks_of(question, other),
                         (("word", "a"), ("row", ("a", "b")), ("starts", "a"), ("near", "a", "b", 2)))
        self.assertEqual(looks_of(other=question, question=other),
                         (("starts", "a"), ("near", "a", "b", 2), ("row", ("a", "b")), ("word", "a")))
        draw = random.Random(1)
        for _ in range(100):
            pair = drawn_pair(draw, drawn_atom, 6)
            self.assertEqual(looks_of(*pair), all_looks(*pair))

    def test_the_begin_of_a_row(self):
        question = ("all", (CAT, ("starts", "any", "c"), ("row", "any", ("a", "b")), ("near", "any", "a", "b", 2)))
        self.assertEqual(state_of(question, CAT, ()), (0, 0, 0, (0, 0)))

    def test_states_of_a_row_look(self):
        atom = ("row", "any", ("a", "a", "b", "a"))
        told = {"": 0, "a": 1, "aa": 2, "aaa": 2, "aab": 3, "aabb": 0, "aaba": 4, "aabax": 4, "ab": 0, "aax": 0, "xa": 1}
        for text, state in told.items():
            self.assertEqual(state_of(atom, atom, tuple(text)), (state,), text)

    def test_states_of_a_near_look(self):
        atom = ("near", "any", "a", "b", 3)
        told = {"": (0, 0), "a": (1, 0), "b": (0, 1), "ax": (2, 0), "axx": (3, 0), "axxx": (0, 0), "axxb": (9, 9),
                "axxxb": (0, 1), "axa": (1, 0), "bxxa": (9, 9), "bxxxxa": (1, 0), "abxxxxxx": (9, 9)}
        for text, state in told.items():
            self.assertEqual(state_of(atom, atom, tuple(text)), (state,), text)
        same = ("near", "any", "a", "a", 2)
        for text, state in {"a": (1, 1), "ax": (2, 2), "axx": (0, 0), "axa": (9, 9), "axxa": (1, 1), "aa": (9, 9)}.items():
            self.assertEqual(state_of(same, CAT, tuple(text)), (state, 0), text)

    def test_drawn_rows_place_by_place(self):
        draw = random.Random(22)
        for _ in range(300):
            pair = drawn_pair(draw, drawn_atom, 6)
            row = drawn_row(draw, 20)
            for many in range(len(row) + 1):
                self.assertEqual(state_of(*pair, row[:many]), looked(*pair, row[:many]), (pair, row[:many]))

    def test_rows_as_long_as_can_be(self):
        atom = ("near", "any", "a", "b", 6)
        self.assertEqual(state_of(atom, CAT, (None,) * 399 + ("a",)), ((1, 0), 0))
        self.assertEqual(state_of(question=atom, other=CAT, row=("a",) + (None,) * 398 + ("cat",)), ((0, 0), 1))

    def test_all_states_and_just_these_by_all_short_rows(self):
        draw = random.Random(23)
        for _ in range(40):
            pair = drawn_pair(draw, few_atom)
            while len(all_looks(*pair)) > 2:
                pair = drawn_pair(draw, few_atom)
            things = ("a", "b", "a-x", "b-x", None)
            found = {looked(*pair, row) for many in range(6) for row in product(things, repeat=many)}
            self.assertEqual(row_states(*pair), tuple(sorted(found)), pair)

    def test_all_states_and_just_these_by_rows_that_grow(self):
        draw = random.Random(24)
        for _ in range(60):
            pair = drawn_pair(draw, drawn_atom)
            states = row_states(*pair)
            self.assertEqual(list(states), sorted(walked(*pair)), pair)
            for _ in range(10):
                self.assertIn(state_of(*pair, drawn_row(draw, 30)), states)

    def test_the_longest_begin_counts(self):
        question = ("all", (("starts", "any", "c"), ("starts", "any", "ca"), ("word", "any", "cat")))
        self.assertEqual(row_states(question, DOG),
                         tuple(sorted((*state, dog) for state in ((0, 0, 0), (1, 0, 0), (1, 1, 0), (1, 1, 1))
                                      for dog in (0, 1))))


class LargeTest(unittest.TestCase):
    def test_two_thousand_states_are_not_too_many(self):
        for pair in (FULL, FULL[::-1], DRAWN_FULL):
            self.assertEqual(len(row_states(*pair)), 2000)
            self.assertEqual(len(set(row_states(*pair))), 2000)
        self.assertEqual(list(row_states(*DRAWN_FULL)), sorted(walked(*DRAWN_FULL)))
        self.assertFalse(finds_no_more(*FULL))
        self.assertTrue(finds_same(("not", ("not", FULL[0])), FULL[0]))
        self.assertTrue(plain_holds(FULL[0], *parting_rows(*FULL)))
        self.assertIs(finds_no_more(FULL[1], ("any", FACTORS[6:])), True)

    def test_one_more_is_too_many(self):
        self.assertEqual(len(walked(*ONE_MORE)), 2001)
        larger = (("any", (("near", "any", "a", "b", 5), *FACTORS[1:6])), FULL[1])
        for pair in (ONE_MORE, ONE_MORE[::-1], larger):
            for call in (row_states, finds_no_more, finds_same, parting_rows):
                error = raised(call, *pair)
                self.assertEqual((type(error), vars(error)), (errors.TooLarge, {"given": 2000}))
            self.assertEqual(looks_of(*pair), all_looks(*pair))
            self.assertEqual(state_of(*pair, ("a", "b")), looked(*pair, ("a", "b")))

    def test_it_is_looked_at_last(self):
        for call in (row_states, finds_no_more, finds_same, parting_rows):
            self.assertIs(type(raised(call, ONE_MORE[0], ("all", ()))), errors.InvalidQuestion)


class FindsTest(unittest.TestCase):
    def compare(self, question, other, pairs):
        """Compares what is told of two questions with a trial of pairs of rows, ordered by their places."""
        rows = parting_rows(question, other)
        self.assertIs(finds_no_more(question, other), rows is None)
        if rows is None:
            for head, body in pairs:
                self.assertFalse(plain_holds(question, head, body) and not plain_holds(other, head, body))
            return True
        head, body = rows
        self.assertTrue(is_row(head) and is_row(body))
        self.assertTrue(plain_holds(question, head, body) and not plain_holds(other, head, body), (question, other, rows))
        for shorter in pairs:
            if len(shorter[0]) + len(shorter[1]) >= len(head) + len(body):
                break
            self.assertFalse(plain_holds(question, *shorter) and not plain_holds(other, *shorter), (question, other, shorter))
        return False

    def all_pairs(self, things, most):
        """All pairs of rows of some things with few places, those with fewer places first."""
        pairs = []
        for many in range(most + 1):
            for row in product(things, repeat=many):
                pairs.extend((row[:at], row[at:]) for at in range(many + 1))
        return pairs

    def test_drawn_questions(self):
        draw = random.Random(26)
        pairs = self.all_pairs((None, "a", "b", "ab", "aba"), 3) + [(drawn_row(draw, 9, ("a", "b", "ab", None, "c")),
                                                                     drawn_row(draw, 9, ("a", "b", "abx"))) for _ in range(100)]
        told = []
        for _ in range(150):
            question, other = drawn_pair(draw, small_atom)
            told.append(self.compare(question, other, pairs))
            both = [finds_no_more(question, other), finds_no_more(other, question)]
            self.assertIs(finds_same(question, other), both == [True, True])
            self.assertIs(finds_same(other, question), both == [True, True])
        self.assertGreater(told.count(True), 30)
        self.assertGreater(told.count(False), 30)

    def test_rows_that_need_several_places(self):
        pairs = self.all_pairs((None, "a", "b", "x"), 5)
        near = [("near", "any", "a", "b", most) for most in range(1, 7)]
        for one in near[:4]:
            for two in near[:4]:
                self.assertEqual(self.compare(one, two, pairs), one[4] <= two[4])
        head, body = parting_rows(near[5], near[4])
        self.assertEqual(len(head) + len(body), 7)
        self.assertFalse(self.compare(("near", "body", "a", "b", 3), ("any", (near[1], ("word", "any", "x"))), pairs))
        row = ("row", "body", ("a", "b", "a", "b"))
        self.assertFalse(self.compare(row, ("any", (("row", "any", ("b", "b")), ("not", row))), pairs))
        self.assertFalse(self.compare(row, ("row", "body", ("a", "a")), pairs))
        self.assertTrue(self.compare(row, ("near", "any", "b", "b", 2), pairs))

    def test_head_and_body_are_apart(self):
        pairs = self.all_pairs((None, "cat", "dog"), 3)
        head, body = ("word", "head", "cat"), ("word", "body", "cat")
        self.assertFalse(self.compare(head, body, pairs))
        self.assertTrue(self.compare(head, CAT, pairs))
        self.assertFalse(self.compare(CAT, head, pairs))
        self.assertTrue(finds_same(CAT, ("any", (head, body))))
        self.assertFalse(finds_same(CAT, ("all", (head, body))))
        self.assertEqual(sum(map(len, parting_rows(("all", (head, body)), DOG))), 2)

    def test_never_and_always(self):
        never, always = ("all", (CAT, ("not", CAT))), ("any", (CAT, ("not", CAT)))
        self.assertTrue(finds_no_more(never, DOG))
        self.assertTrue(finds_no_more(DOG, always))
        self.assertEqual(parting_rows(always, never), ((), ()))
        self.assertIsNone(parting_rows(never, always))
        self.assertTrue(finds_same(never, ("all", (("starts", "any", "ca"), ("not", ("starts", "any", "c"))))))

    def test_a_term_that_is_named_nowhere(self):
        question = ("all", (("starts", "head", "ca"), ("not", ("word", "any", "cat")), ("not", ("starts", "any", "cat"))))
        self.assertFalse(self.compare(question, CAT, []))
        self.assertEqual(sum(map(len, parting_rows(question, CAT))), 1)

    def test_equal_calls_return_equal_results(self):
        self.assertEqual(parting_rows(CAT, DOG), parting_rows(CAT, DOG))
        self.assertEqual(row_states(CAT, DOG), row_states(CAT, DOG))


class WrongTest(unittest.TestCase):
    def test_wrong_questions_and_rows(self):
        wrongs = given(errors.InvalidQuestion, *NO_QUESTIONS)
        arguments = (("question", CAT, wrongs), ("other", ("not", DOG), wrongs))
        for call in (looks_of, row_states, finds_no_more, finds_same, parting_rows):
            check_calls(self, call, *arguments)
        check_calls(self, state_of, *arguments, ("row", (None,) * 400, given(errors.InvalidRow, *NO_ROWS)))


if __name__ == "__main__":
    unittest.main()

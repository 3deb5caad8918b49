"""Ranks, scores and ranked row documents: points 23 to 26 and the section of the ranking."""

import random
import unittest

from plainscan import errors
from plainscan.ranking import Rank, ranked, score
from tests.calls import NO_NUMBERS, NO_OBJECTS, NO_STRINGS, NO_TUPLES, check_calls, given, indexed
from tests.test_questions import CAT, DOG, NO_QUESTIONS, NO_ROWS, drawn_questions, drawn_row, plain_holds

GOOD = ((0, 5, 7), (0, 1, 2, 3), (3, 2, 1), 4, "young", "all")
LARGE = 10 ** 30
NO_POINTS = (*NO_TUPLES, [0, 1], (), (1,), (1, 0), (0,) * 6, (0, 10), (0, -1), (0, True), (False,), (0, "1"), (0, (1,)), ("0",),
             (0, None))
NO_RARE = (*NO_TUPLES, [1], (), (1,) * 5, (4,), (-1,), (1, True), (1, "1"), (None,), ((1,),), (0, 1, 2, 3, 0))
NO_LARGE = (*(value for value in NO_NUMBERS), LARGE + 1)
NO_DOCUMENTS = (
    *NO_OBJECTS, [1, 2, (), ()], (1, 2, ()), (1, 2, (), (), ()), (1, 2, (), [],), (1, 2, (), ("",)), (1, 2, ("a b",), ()),
    *((key, 2, (), ()) for key in (*NO_NUMBERS, 0, 1000)),
    *((1, day, (), ()) for day in (*NO_NUMBERS, 10000)),
    *((1, 2, row, ()) for row in NO_ROWS),
    *((1, 2, (), row) for row in NO_ROWS),
)


def plain_points(numbers, times):
    return numbers[times] if times < len(numbers) else numbers[-1]


def plain_factor(rare, number):
    """The factor by the number of binary figures, counted one by one."""
    if number == 0:
        return 0
    return plain_points(rare, len(bin(number)) - 3)


def walked_atoms(question):
    """The open atoms, each as often as it stands."""
    if question[0] == "not":
        return []
    if question[0] in ("all", "any"):
        return [atom for part in question[1] for atom in walked_atoms(part)]
    return [question]


def plain_score(question, parts, head, body, spreads):
    heads, bodies, rare, bonus, _, _ = parts
    told = 0
    for term in {atom[2] for atom in walked_atoms(question) if atom[0] == "word"}:
        stands = [len([one for one in row if one == term]) for row in (head, body)]
        points = plain_points(heads, stands[0]) + plain_points(bodies, stands[1])
        told += plain_factor(rare, spreads.get(term, 0)) * points
    for atom in set(walked_atoms(question)):
        if atom[0] in ("row", "near") and plain_holds(atom, head, body):
            told += bonus
    return told


def plain_scan(documents, further, question, parts, many):
    """The plain reckoning: each pair of documents put in order by what point 24 says, one thing behind the other."""
    counted = documents + further if parts[5] == "all" else documents
    spreads = {}
    for term in {term for _, _, head, body in counted for term in head + body}:
        spreads[term] = sum(term in head or term in body for _, _, head, body in counted)
    found = [(plain_score(question, parts, head, body, spreads), day, key) for key, day, head, body in documents
             if plain_holds(question, head, body)]
    found.sort(key=lambda one: one[2])
    if parts[4] != "key":
        found.sort(key=lambda one: one[1], reverse=parts[4] == "young")
    found.sort(key=lambda one: one[0], reverse=True)
    return tuple((key, told) for told, _, key in found)[:many]


def drawn_parts(draw):
    def points():
        return (0, *(draw.randint(0, 9) for _ in range(draw.randint(0, 4))))
    return (points(), points(), tuple(draw.randint(0, 3) for _ in range(draw.randint(1, 4))), draw.randint(0, 9),
            draw.choice(("young", "old", "key")), draw.choice(("seen", "all")))


def drawn_documents(draw, many, keys=range(1, 1000), longest=8):
    return tuple((key, draw.randint(0, 3), drawn_row(draw, longest), drawn_row(draw, longest))
                 for key in sorted(draw.sample(list(keys), many)))


def wrong_documents():
    """Wrong values for an argument that wants row documents, each with the index that is told."""
    kind = errors.InvalidDocuments
    first, second = (3, 0, (), ()), (5, 0, (), ())
    full = tuple((key, 0, (), ()) for key in range(1, 202))
    return [
        *indexed(kind, None, *NO_TUPLES, [first]),
        *indexed(kind, 0, first, *((value,) for value in NO_DOCUMENTS)),
        *indexed(kind, 1, (first, first), (second, first), (first, (3, 1, (), ())), (first, None, first)),
        *indexed(kind, 2, (first, second, first), *((first, second, value) for value in NO_DOCUMENTS)),
        *indexed(kind, 200, full, full + (1,)),
        *indexed(kind, 199, full[:199] + (1,) + full[200:]),
    ]


class RankTest(unittest.TestCase):
    def test_the_parts_are_kept(self):
        rank = Rank(*GOOD)
        self.assertEqual((rank.heads, rank.bodies, rank.rare, rank.bonus, rank.ties, rank.counted), GOOD)
        self.assertEqual(rank.parts, GOOD)
        self.assertEqual(Rank(*GOOD[:5]).counted, "seen")
        self.assertEqual(Rank(counted="all", ties="young", bonus=4, rare=(3, 2, 1), bodies=(0, 1, 2, 3), heads=(0, 5, 7)), rank)

    def test_each_bound_just_at_it(self):
        for parts in (((0,), (0,), (0,), 0, "key", "seen"), ((0, 9, 9, 9, 9), (0,) * 5, (3,) * 4, 9, "old", "all")):
            self.assertEqual(Rank(*parts).parts, parts)
            self.assertTrue(Rank(*parts))

    def test_equal_exactly_if_the_parts_are(self):
        rank = Rank(*GOOD)
        self.assertTrue(rank == Rank(*GOOD) and not rank != Rank(*GOOD))
        for at, other in enumerate(((0, 5, 7, 7), (0,), (3, 2, 1, 1), 5, "old", "seen")):
            changed = Rank(*GOOD[:at], other, *GOOD[at + 1:])
            self.assertTrue(rank != changed and not rank == changed)
        for value in (*NO_OBJECTS, GOOD):
            self.assertTrue(rank != value and not rank == value)

    def test_wrong_parts(self):
        no_points = given(errors.InvalidPoints, *NO_POINTS)
        check_calls(self, Rank, ("heads", GOOD[0], no_points), ("bodies", GOOD[1], no_points),
                    ("rare", GOOD[2], given(errors.InvalidRare, *NO_RARE)),
                    ("bonus", 9, given(errors.InvalidNumber, *NO_NUMBERS, 10)),
                    ("ties", "key", given(errors.InvalidTies, *NO_STRINGS, "", "Young", "ke", "keys", "seen", ("key",))),
                    ("counted", "all", given(errors.InvalidCounted, *NO_STRINGS, "", "any", "All", "key", ("all",))))

    def test_points(self):
        rank = Rank((0, 5, 7), (0, 1, 2, 3), (1,), 0, "key")
        self.assertEqual([rank.points(times, 0) for times in (0, 1, 2, 3, LARGE)], [0, 5, 7, 7, 7])
        self.assertEqual([rank.points(0, times) for times in (0, 1, 2, 3, 4, LARGE)], [0, 1, 2, 3, 3, 3])
        self.assertEqual(rank.points(bodies=2, heads=1), 7)
        self.assertEqual([Rank((0,), (0,), (1,), 0, "key").points(*times) for times in ((0, 0), (5, 9))], [0, 0])

    def test_factors(self):
        rank = Rank((0,), (0,), (3, 1, 2, 0), 0, "key")
        numbers = (0, 1, 2, 3, 4, 7, 8, 15, 16, 255, 256, LARGE)
        self.assertEqual([rank.factor(number) for number in numbers], [0, 3, 1, 1, 2, 2, 0, 0, 0, 0, 0, 0])
        one = Rank((0,), (0,), (2,), 0, "key")
        self.assertEqual([one.factor(number) for number in (0, 1, 2, 9, LARGE)], [0, 2, 2, 2, 2])
        self.assertEqual(one.factor(number=1), 2)

    def test_values(self):
        rank = Rank((0, 5, 7), (0, 1), (3, 2, 0), 0, "key")
        self.assertEqual([rank.value(number, 2, 9) for number in (1, 2, 3, 4, LARGE)], [24, 16, 0, 0, 0])
        self.assertEqual(rank.value(bodies=0, heads=1, class_number=1), 15)

    def test_drawn_ranks(self):
        draw = random.Random(23)
        for _ in range(200):
            parts = drawn_parts(draw)
            rank = Rank(*parts)
            for _ in range(10):
                heads, bodies, number = (draw.choice((0, 1, 2, 3, 4, 5, 9, 200)) for _ in range(3))
                points = plain_points(parts[0], heads) + plain_points(parts[1], bodies)
                self.assertEqual(rank.points(heads, bodies), points)
                self.assertEqual(rank.factor(number), plain_factor(parts[2], number))
                self.assertEqual(rank.value(number + 1, heads, bodies), plain_points(parts[2], number) * points)

    def test_blind(self):
        told = {((0, 1), (0, 2), (2, 2, 2)): True, ((0, 1), (0, 2), (2, 2, 1)): False, ((0, 0), (0,), (3, 1)): True,
                ((0, 0), (0, 1), (3, 1)): False, ((0, 0, 1), (0,), (3, 1)): False, ((0, 1), (0,), (0,)): True,
                ((0, 1), (0,), (0, 1)): False}
        for parts, blind in told.items():
            for counted in ("seen", "all"):
                self.assertIs(Rank(*parts, 3, "key", counted).is_blind(), blind)

    def test_wrong_numbers(self):
        rank = Rank(*GOOD)
        wrongs = given(errors.InvalidNumber, *NO_LARGE)
        check_calls(self, rank.points, ("heads", LARGE, wrongs), ("bodies", LARGE, wrongs))
        check_calls(self, rank.factor, ("number", LARGE, wrongs))
        check_calls(self, rank.value, ("class_number", LARGE, given(errors.InvalidNumber, *NO_LARGE, 0)),
                    ("heads", 0, wrongs), ("bodies", 0, wrongs))


class ScoreTest(unittest.TestCase):
    rank = Rank((0, 5, 7), (0, 1, 2, 3), (3, 2, 1), 4, "young")

    def test_each_term_once(self):
        question = ("any", (CAT, ("word", "head", "cat"), ("word", "body", "cat"), CAT))
        self.assertEqual(score(question, self.rank, ("cat",), ("cat", "cat"), (("cat", 1),)), 21)

    def test_fields_of_word_atoms_do_not_matter(self):
        self.assertEqual(score(DOG, self.rank, (), ("dog",), (("dog", 4),)), 1)

    def test_what_is_not_open_does_not_count(self):
        near = ("near", "any", "cat", "dog", 1)
        question = ("all", (("not", CAT), ("not", ("not", DOG)), ("not", near)))
        self.assertEqual(score(question, self.rank, (), ("cat", "dog"), (("cat", 1), ("dog", 1))), 0)
        question = ("any", (("all", (("not", CAT), ("not", near))), near))
        self.assertEqual(score(question, self.rank, (), ("cat", "dog"), (("cat", 1),)), 4)

    def test_bonus_for_each_unlike_atom_once(self):
        near, row = ("near", "any", "cat", "dog", 1), ("row", "any", ("cat", "dog"))
        question = ("any", (near, row, near, ("row", "body", ("cat", "dog")), ("row", "head", ("cat", "dog"))))
        self.assertEqual(score(question, self.rank, (), ("cat", "dog"), ()), 12)
        self.assertEqual(score(("any", (("starts", "any", "c"), CAT)), self.rank, (), ("cat",), ()), 0)

    def test_whether_the_question_holds_does_not_matter(self):
        self.assertEqual(score(("all", (CAT, DOG)), self.rank, ("cat",), (), (("cat", 1),)), 15)

    def test_drawn_questions(self):
        draw = random.Random(24)
        for question in drawn_questions(draw, 300):
            parts, head, body = drawn_parts(draw), drawn_row(draw), drawn_row(draw)
            spreads = {term: draw.choice((0, 1, 2, 5, 9, LARGE)) for term in ("cat", "red", "x~") if draw.random() < 0.8}
            told = plain_score(question, parts, head, body, spreads)
            self.assertEqual(score(question, Rank(*parts), head, body, tuple(sorted(spreads.items()))), told)
        self.assertEqual(score(spreads=(("cat", 1),), body=(), head=("cat",), rank=self.rank, question=CAT), 15)

    def test_wrong(self):
        kind = errors.InvalidSpreads
        wrongs = [
            *indexed(kind, None, *NO_TUPLES, [("cat", 1)]),
            *indexed(kind, 0, ("cat", 1), (["cat", 1],), (("cat",),), (("cat", 1, 1),), (("", 1),), (("a b", 1),), (None,),
                     (("a" * 211, 1),), (("50%", 1),), ((b"a", 1),), ((1, 1),), (({}, 1), 3)),
            *indexed(kind, 0, *((("cat", number),) for number in NO_LARGE)),
            *indexed(kind, 1, (("cat", 1), ("cat", 1)), (("dog", 1), ("cat", 1)), (("a", 1), ("b", True), ("a", 1))),
            *indexed(kind, 2, (("a", 1), ("b", 1), ("B", 1))),
        ]
        no_rows = given(errors.InvalidRow, *NO_ROWS)
        check_calls(self, score, ("question", CAT, given(errors.InvalidQuestion, *NO_QUESTIONS)),
                    ("rank", self.rank, given(errors.NotARank, *NO_OBJECTS, GOOD)), ("head", ("a",) * 400, no_rows),
                    ("body", (None,), no_rows), ("spreads", (("A" * 210, LARGE), ("a~", 0)), wrongs))
        many = tuple((f"t{number:04}", number) for number in range(3000))
        self.assertEqual(score(CAT, self.rank, (), (), many), 0)


class RankedTest(unittest.TestCase):
    def test_ties(self):
        documents = tuple((key, day, ("cat",), ()) for key, day in ((1, 5), (2, 7), (3, 5), (4, 7), (5, 6)))
        orders = {"young": (2, 4, 5, 1, 3), "old": (1, 3, 5, 2, 4), "key": (1, 2, 3, 4, 5)}
        for ties, keys in orders.items():
            rank = Rank((0, 1), (0,), (1,), 0, ties)
            self.assertEqual(ranked(documents, (), CAT, rank, 40), tuple((key, 1) for key in keys))

    def test_the_score_goes_ahead_of_ties(self):
        documents = ((1, 0, (), ("cat",)), (2, 0, ("cat",), ()), (3, 9, (), ()))
        rank = Rank((0, 5), (0, 1), (1,), 0, "key")
        self.assertEqual(ranked(documents, (), CAT, rank, 40), ((2, 5), (1, 1)))
        self.assertEqual(ranked(documents, (), ("not", CAT), rank, 40), ((3, 0),))

    def test_counted_documents(self):
        documents = ((2, 0, ("cat",), ("cat",)),)
        further = ((1, 0, (), ("cat",)), (3, 0, ("cat",), ()), (4, 0, ("dog",), ()))
        for counted, worth in (("seen", 3), ("all", 2)):
            rank = Rank((0, 1), (0, 0), (3, 2, 1), 0, "key", counted)
            self.assertEqual(ranked(documents, further, CAT, rank, 40), ((2, worth),))
            self.assertEqual(ranked(documents, (), CAT, rank, 40), ((2, 3),))
            self.assertEqual(ranked((), documents, CAT, rank, 40), ())

    def test_the_first_many(self):
        documents = tuple((key, 0, ("cat",), ()) for key in range(1, 101))
        rank = Rank((0,), (0,), (0,), 0, "key")
        for many in (1, 2, 39, 40):
            self.assertEqual(ranked(documents, (), CAT, rank, many), tuple((key, 0) for key in range(1, many + 1)))

    def test_drawn_documents(self):
        draw = random.Random(25)
        for question in drawn_questions(draw, 150):
            parts = drawn_parts(draw)
            documents = drawn_documents(draw, draw.randint(0, 12), range(1, 60, 2))
            further = drawn_documents(draw, draw.randint(0, 12), range(2, 60, 2))
            many = draw.randint(1, 12)
            expected = plain_scan(documents, further, question, parts, many)
            self.assertEqual(ranked(documents, further, question, Rank(*parts), many), expected)

    def test_two_hundred_documents(self):
        draw = random.Random(26)
        for question in drawn_questions(draw, 15):
            parts = drawn_parts(draw)
            documents = drawn_documents(draw, 200, range(1, 1000, 2))
            further = drawn_documents(draw, 200, range(2, 1000, 2))
            expected = plain_scan(documents, further, question, parts, 40)
            self.assertEqual(ranked(documents, further, question, Rank(*parts), 40), expected)
            self.assertEqual(ranked(many=40, rank=Rank(*parts), question=question, further=further, documents=documents),
                             expected)

    def test_wrong(self):
        first = (3, 0, (), ())
        taken = indexed(errors.InvalidDocuments, 1, ((2, 0, (), ()), (999, 1, (), ())), (first, (999, 0, (), ()), first))
        largest = ((999, 9999, ("a",) * 400, (None,) * 400),)
        full = tuple((key, 0, (), ()) for key in range(1, 201))
        check_calls(self, ranked, ("documents", largest, wrong_documents()), ("further", full, wrong_documents() + taken),
                    ("question", CAT, given(errors.InvalidQuestion, *NO_QUESTIONS)),
                    ("rank", Rank(*GOOD), given(errors.NotARank, *NO_OBJECTS, GOOD)),
                    ("many", 40, given(errors.InvalidNumber, *NO_NUMBERS, 0, 41)))


if __name__ == "__main__":
    unittest.main()

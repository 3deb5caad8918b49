"""The checker: point 45, with the points whose words the claims use, and the section of the checker."""

import random
import unittest

from plainscan.checker import accepts
from plainscan.errors import ScanError
from plainscan.questionlikes import row_states
from tests.calls import NO_OBJECTS, NO_NUMBERS, NO_STRINGS, NO_TUPLES
from tests.claims import JUDGEMENTS, MAKERS, RIVALS, bent, made_claims, others, plainly_accepted
from tests.test_questionlikes import DRAWN_FULL, FULL, ONE_MORE
from tests.test_questions import CAT
from tests.test_ranking import GOOD
from tests.test_scans import LOG, PLAIN, RANK

RED = ("word", "any", "red")
RIGHTS, MORE = (("pay", ("badge", "a")),), (("pay", ("any", (("badge", "a"), ("badge", "b")))),)
A_ROW, CLOSE = ("row", "body", ("red", "cat")), ("near", "body", "red", "cat", 1)
SEEN = ((0, 1), (0, 2), (3, 1), 1, "key", "seen")
OTHER = ((0, 1), (0, 3), (3, 1), 1, "key", "seen")
TWICE = ((0, 2, 2), (0, 4), (3, 1, 1), 2, "key", "seen")
LISTS = (((9, 5), (4, 2), (1, 7)), ((6, 5), (6, 8), (2, 2)))
CHANGES = LOG.changes
COPIES = ((0, 0, 0, 2), (2, 0, 3, 4))
ONE, TWO, THREE = ("ab", (), "", (("a", "", 1),), ()), ("ab", (), "", (("a", "", 1), ("aa", "a", 1)), ()), ("ab", (), "", (("a", "", 2),), ())
# A right claim of each kind, with a right paper.
RIGHT = (
    (("read alike", ONE, TWO), ()), (("read unlike", ONE, THREE), "ba"), (("read unlike", ONE, THREE), ("ba " * 67)[:200]),
    (("finds no more", CAT, CAT), ((1,), (0,))), (("finds no more", A_ROW, CLOSE), None), (("finds more", CLOSE, A_ROW), ((), ("cat", "red"))),
    (("finds more", CAT, ("not", CAT)), (("cat",) * 400, (None,) * 400)),
    (("ranked alike", SEEN, TWICE), (2, 1)), (("ranked alike", SEEN, TWICE), (2 * 10 ** 40, 10 ** 40)),
    (("ranked unlike", SEEN, OTHER), ((("word", 2, (0, 1), (1, 0)), 1), (("bonus",), -1))),
    (("ranked unlike", SEEN, (*TWICE[:4], "old", "seen")), "ties"), (("ranked unlike", SEEN, (*TWICE[:5], "all")), "counted"),
    (("no trace", SEEN), ()), (("no trace", ((0, 1), (0,), (2, 2), 1, "key", "all")), ()),
    (("trace", GOOD), (((1, 0, ("cat",), ()),), ((2, 0, ("cat",), ()),), CAT)),
    (("shows no more", RIGHTS, MORE), ()), (("shows more", MORE, RIGHTS), (("pay",), "b")),
    (("scanned", PLAIN.parts, CHANGES, 2, "a", CAT, RANK.parts, 5, ((7, 2), (4, 2))), ()),
    (("settled", LISTS, 1, (5,)), (1, 1)), (("settled", LISTS, 1, (5,)), (3, 3)), (("settled", ((),), 1, ()), (0,)),
    (("fewest", LISTS, 1, 2), (1, 1)), (("fewest", ((), ()), 1, 0), (0, 0)),
    (("plain part", CHANGES, 5, ((4, 4, (4, 20, ("pay",), "Dogs", "A dog and a cat")),)), ()),
    (("served", 1, COPIES, CHANGES, "", 1, 2), ((2, 4),)), (("unserved", 1, COPIES, CHANGES, "a", 0), ()), (("unserved", 4, (), (), "", 0), ()),
    (("true list", PLAIN.parts, CHANGES, "a", CAT, 0, ((1, 1, "came", 4), (2, 2, "came", 7), (3, 3, "went", 7))), ()),
    (("shown", CAT, ("cat",), (), ((0, 1), (0, 0))), ()), (("shown", ("not", CAT), (), (), ((0, 0), (0, 0))), ()),
    (("paged", PLAIN.parts, CHANGES, (2, 0), "a", CAT, RANK.parts, 1, ((2, 1), ((7, 2),), True)), ()),
)


def right_ones():
    return [(claim, row_states(*claim[1:]) if paper is None else paper) for claim, paper in RIGHT]


class Loud:
    """A value that raises whatever is asked of it."""
    def __eq__(self, other):
        raise KeyError("asked")

    __ne__ = __lt__ = __gt__ = __le__ = __ge__ = __len__ = __iter__ = __hash__ = __bool__ = __contains__ = __getitem__ = __eq__


class RightTest(unittest.TestCase):
    def test_one_of_each_kind(self):
        for claim, paper in right_ones():
            self.assertIs(accepts(claim, paper), True, claim)
            self.assertIs(accepts(paper=paper, claim=claim), True)
            self.assertIs(plainly_accepted(claim, paper), True, claim)
        self.assertEqual({claim[0] for claim, _ in RIGHT}, set(JUDGEMENTS))

    def test_drawn_ones(self):
        draw = random.Random(45)
        kinds = set()
        for maker in MAKERS:
            for claim, paper in made_claims(draw, maker, 60):
                self.assertTrue(plainly_accepted(claim, paper), (claim, paper))
                self.assertIs(accepts(claim, paper), True, (claim, paper))
                kinds.add(claim[0])
        self.assertEqual(kinds, set(JUDGEMENTS))


class BentTest(unittest.TestCase):
    def compare(self, claim, paper):
        told = accepts(claim, paper)
        self.assertIs(type(told), bool)
        self.assertIs(told, bool(plainly_accepted(claim, paper)), (claim, paper))
        return told

    def test_bent_at_drawn_places(self):
        draw = random.Random(46)
        told = []
        for maker in MAKERS:
            for claim, paper in made_claims(draw, maker, 12):
                for _ in range(25):
                    told.append(self.compare(bent(draw, claim), paper))
                    told.append(self.compare(claim, bent(draw, paper)))
        self.assertGreater(told.count(False), 4000)
        self.assertGreater(told.count(True), 100)

    def test_each_part_of_the_right_ones_bent(self):
        draw = random.Random(47)
        for claim, paper in right_ones():
            for at, part in enumerate(claim):
                for other in others(draw, part):
                    self.compare(claim[:at] + (other,) + claim[at + 1:], paper)
            for other in others(draw, paper):
                self.compare(claim, other)
            for _ in range(100):
                self.compare(bent(draw, claim), paper)
                self.compare(claim, bent(draw, paper))

    def test_values_of_any_kind(self):
        for claim, paper in right_ones():
            for value in (*NO_OBJECTS, *NO_NUMBERS, *NO_STRINGS, *NO_TUPLES):
                self.compare(value, paper)
                self.compare(claim, value)
                for at in range(len(claim)):
                    self.compare(claim[:at] + (value,) + claim[at + 1:], paper)
            for value in (Loud(), (Loud(),), (Loud(), Loud()), (1, Loud()), (Loud(), (Loud(),)), ((("bonus",), Loud()),), (Loud, Loud, Loud)):
                self.assertIs(accepts(claim, value), False)
                self.assertIs(accepts(value, paper), False)
                for at in range(len(claim)):
                    self.assertIs(accepts(claim[:at] + (value,) + claim[at + 1:], paper), False)
                    self.assertIs(accepts(claim[:at] + (value,) + claim[at + 1:], value), False)
            self.assertIs(accepts(claim[:-1], paper), False)
            self.assertIs(accepts(claim + (claim[-1],), paper), False)
            self.assertIs(accepts(list(claim), paper), False)
            self.assertIs(accepts((claim[0],), paper), False)
            self.assertIs(accepts((), paper), False)
            self.assertIs(accepts((claim[0].upper(), *claim[1:]), paper), False)

    def test_no_number_is_taken_for_true(self):
        for claim, paper in (
                (("settled", (((9, 1),),), 1, (1,)), (True,)), (("settled", (((9, 1),),), 1, (True,)), (1,)), (("settled", (((9, 1),),), True, (1,)), (1,)),
                (("fewest", (((9, 1),),), 1, True), (1,)), (("fewest", ((),), 1, False), (0,)), (("fewest", ((),), 1, 0), (False,)),
                (("ranked alike", SEEN, SEEN), (True, True)), (("ranked alike", SEEN, SEEN), (1, True)),
                (("finds no more", CAT, CAT), ((True,), (0,))), (("finds no more", CAT, CAT), ((1,), (False,))),
                (("finds no more", CAT, CAT), ((1,), (0,), (True,))),
                (("served", 1, ((1, 0, 0, 1),), CHANGES[:1], "", 0, True), ((1, 1),)), (("served", 1, ((1, 0, 0, 1),), CHANGES[:1], "", 0, 1), ((True, 1),)),
                (("served", 1, ((1, 0, 0, 1),), CHANGES[:1], "", 0, 1), ((1, True),)), (("served", True, ((1, 0, 0, 1),), CHANGES[:1], "", 0, 1), ((1, 1),)),
                (("served", 1, ((True, 0, 0, 1),), CHANGES[:1], "", 0, 1), ((1, 1),)), (("unserved", 1, (), (), "", False), ()),
                (("true list", PLAIN.parts, CHANGES[:1], "", CAT, 0, ((1, True, "came", 4),)), ()),
                (("true list", PLAIN.parts, CHANGES[:1], "", CAT, False, ((1, 1, "came", 4),)), ()),
                (("paged", PLAIN.parts, CHANGES, (2, 0), "a", CAT, RANK.parts, 1, ((2, True), ((7, 2),), True)), ()),
                (("paged", PLAIN.parts, CHANGES, (2, 0), "a", CAT, RANK.parts, 1, ((2, 1), ((7, 2),), 1)), ()),
                (("paged", PLAIN.parts, CHANGES, (2, False), "a", CAT, RANK.parts, 1, ((2, 1), ((7, 2),), True)), ()),
                (("plain part", CHANGES[:1], 0, ((4, True, CHANGES[0][1]),)), ()), (("shown", CAT, ("cat",), (), ((False, True), (0, 0))), ())):
            self.assertIs(accepts(claim, paper), False, (claim, paper))
            self.assertIs(plainly_accepted(claim, paper), False, (claim, paper))

    def test_nothing_settled_is_no_claim(self):
        for keys in (None, (), (5,), (5, 2)):
            self.assertIs(accepts(("settled", LISTS, 2, keys), (1, 1)), False)
        self.assertIs(accepts(("fewest", LISTS, 2, 2), (1, 1)), False)

    def test_more_fewest_depths(self):
        eight = tuple((1, key) for key in range(1, 9))
        self.assertIs(accepts(("fewest", (eight,), 40, 8), (8,)), True)
        self.assertIs(accepts(("fewest", (eight, eight), 1, 2), (1, 1)), True)
        # More have been read than must be, or one of the lists is too long for trying.
        self.assertIs(accepts(("fewest", (eight, eight), 1, 3), (1, 2)), False)
        nine = eight + ((1, 9),)
        self.assertIs(accepts(("fewest", (nine,), 1, 1), (1,)), False)
        self.assertIs(accepts(("settled", (nine,), 1, (1,)), (1,)), True)


    def test_copies_that_no_fleet_tells(self):
        one = (0, 0, 0, 1)
        for copies in ((one,), ((5, 0, 0, 200),), (one, (5, 0, 1, 1)), ((0, 0, 200, 200), (1, 0, 0, 0)), ()):
            self.assertIs(accepts(("unserved", 1, copies, CHANGES, "a", 4), ()), True, copies)
            self.assertIs(accepts(("unserved", 2, (*copies, (5, 1, 0, 0)), CHANGES, "a", 4), ()), True, copies)
        for copy in ((-1, 0, 0, 1), (6, 0, 0, 1), (0, -1, 0, 1), (0, 1, 0, 1), (0, 0, 2, 1), (0, 0, -1, 1), (0, 0, 0, 201), (0, 0, 0, -1), (0, 0, 201, 201),
                     (0, 0, 0), (0, 0, 0, 1, 1), (0,), (), [0, 0, 0, 1], (True, 0, 0, 1), (0, False, 0, 1), (0, 0, False, 1), (0, 0, 0, True), None, 5, "copy"):
            for copies in ((copy,), ((0, 0, 0, 0), copy), (copy, (5, 0, 0, 5))):
                self.assertIs(accepts(("unserved", 1, copies, CHANGES, "a", 4), ()), False, copies)
                self.assertIs(accepts(("served", 1, copies, CHANGES[:1], "", 0, 1), ((5, 1),)), False, copies)
        for copies in ((one, one), (one, (0, 0, 1, 1)), ((5, 0, 0, 5), one), [one]):
            self.assertIs(accepts(("unserved", 1, copies, CHANGES, "a", 4), ()), False, copies)
        for lots in (0, 5, -1, True, None, "1"):
            self.assertIs(accepts(("unserved", lots, (), CHANGES, "a", 4), ()), False, lots)

    def test_papers_of_served_counts(self):
        copies = ((0, 0, 0, 1), (0, 1, 1, 4), (1, 0, 3, 4), (3, 1, 3, 200))
        claim = ("served", 2, copies, CHANGES, "", 0, 2)
        for paper in (((1, 4), (0, 4)), ((1, 4), (3, 4)), ((1, 4), (3, 5))):
            self.assertIs(accepts(claim, paper), True, paper)
        for paper in (((1, 4),), ((1, 4), (0, 4), (0, 4)), ((0, 4), (1, 4)), ((1, 5), (0, 4)), ((1, 3), (0, 4)), ((1, 4), (3, 6)), ((1, 4), (3, 200)),
                      ((1, 4), (0, 5)), ((0, 4), (0, 4)), ((1, 4), (3, -1)), ((1, 4), (1, 4)), ((1, 4), (3, 4, 4)), ((1, 4), (3,)), [(1, 4), (3, 4)]):
            self.assertIs(accepts(claim, paper), False, paper)

    def test_ties_and_counted(self):
        blind = ((0, 1), (0, 2), (3, 3), 1, "key", "seen")
        seeing, other = ((0, 1), (0, 2), (3, 1), 1, "key", "all"), ((0,), (0,), (3, 1), 0, "key", "all")
        self.assertIs(accepts(("ranked unlike", blind, seeing), "counted"), True)
        self.assertIs(accepts(("ranked unlike", seeing, blind), "counted"), True)
        self.assertIs(accepts(("ranked unlike", SEEN, seeing), "counted"), True)
        self.assertIs(accepts(("ranked unlike", blind, other), "counted"), False)
        self.assertIs(accepts(("ranked unlike", seeing, other), "counted"), False)
        for paper in ("ties", "Ties", "count", "", "bonus", "seen"):
            self.assertIs(accepts(("ranked unlike", SEEN, seeing), paper), False)


class StatesTest(unittest.TestCase):
    def test_just_two_thousand_states(self):
        for pair in (FULL, DRAWN_FULL):
            paper = row_states(*pair)
            self.assertEqual(len(paper), 2000)
            for one in (paper, paper[::-1], paper[:-1], paper + paper[:1], paper[1:] + paper[:1]):
                both = ("finds no more", pair[0], pair[0])
                self.assertIs(accepts(("finds no more", *pair), one), accepts(("finds no more", *pair), paper) and len(one) == 2000)
                self.assertIs(accepts(both, one), False)

    def test_more_states_are_in_no_claim(self):
        question, other = ONE_MORE
        for claim in ("finds no more", "finds more"):
            for pair in ((question, other), (other, question)):
                for paper in ((), ((), ()), (("a",), ("a",)), (("c",), ()), ((0, 0),)):
                    self.assertIs(accepts((claim, *pair), paper), False)

    def test_states_that_no_row_has_may_stand_beside(self):
        # No row has the term cat without having a begin of it: such a state may stand in the paper if it leads to none outside.
        begin = ("starts", "any", "ca")
        claim = ("finds no more", CAT, CAT)
        self.assertIs(accepts(("finds no more", ("all", (CAT, begin)), begin), ((0, 0), (0, 1), (1, 1))), True)
        self.assertIs(accepts(("finds no more", ("all", (CAT, begin)), begin), ((0, 0), (0, 1), (1, 1), (1, 0))), True)
        self.assertIs(accepts(("finds no more", CAT, begin), ((0, 0), (0, 1), (1, 1))), True)
        # With it the pairs tell too much.
        self.assertIs(accepts(("finds no more", CAT, begin), ((0, 0), (0, 1), (1, 1), (1, 0))), False)
        for paper in (((0,),), ((1,),), ((0,), (1,), (2,)), ((0,), (1,), (0,)), ((0, 0), (1, 0)), (0, 1), ((0,), [1])):
            self.assertIs(accepts(claim, paper), False)

    def test_elements_that_no_row_gives(self):
        near = ("near", "any", "a", "b", 2)
        states = row_states(near, near)
        self.assertIs(accepts(("finds no more", near, near), states), True)
        for other in ((1, 1), (1, 2), (3, 0), (9, 0), (9, 9, 9), 9, (True, 0)):
            self.assertIs(accepts(("finds no more", near, near), (*states, (other,))), False)


class RivalsTest(unittest.TestCase):
    def test_at_most_one_has_a_paper(self):
        draw = random.Random(48)
        for maker in MAKERS[:5]:
            made = made_claims(draw, maker, 40)
            papers = [paper for _, paper in made] + [(), None, "ties", "counted"]
            for claim, paper in made:
                rival = (RIVALS[claim[0]], *claim[1:])
                for other in [paper, *papers]:
                    self.assertIs(accepts(rival, other), False, (rival, other))

    def test_served_and_unserved(self):
        draw = random.Random(49)
        made = made_claims(draw, MAKERS[8], 60)
        for claim, paper in made:
            rivals = [("unserved", *claim[1:6])] if claim[0] == "served" else [("served", *claim[1:], count) for count in range(6)]
            for rival in rivals:
                for other in [paper] + [one for _, one in made]:
                    self.assertIs(accepts(rival, other), False)
        for claim, paper in made:
            if claim[0] == "served":
                for count in range(12):
                    self.assertIs(accepts((*claim[:-1], count), paper), count == claim[-1])

    def test_one_answer_for_one_question(self):
        draw = random.Random(50)
        for at in (5, 7, 9):
            for claim, paper in made_claims(draw, MAKERS[at], 40):
                for _ in range(10):
                    other = bent(draw, claim[-1])
                    if repr(other) != repr(claim[-1]):
                        self.assertIs(accepts((*claim[:-1], other), paper), False)

    def test_errors_of_the_package_do_not_come_out(self):
        for claim, paper in right_ones():
            try:
                accepts(claim[:1] + claim[1:][::-1], paper)
            except ScanError as error:
                self.fail(error)


if __name__ == "__main__":
    unittest.main()

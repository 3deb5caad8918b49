"""Which ranks order alike, what parts them, and which show a trace: points 26, 27 and 28 and the section of the rankinglikes."""

import math
import random
import unittest

from plainscan import errors
from plainscan.ranking import Rank, ranked
from plainscan.rankinglikes import (
    is_parting, multipliers, parting, parting_number, ranked_alike, shows_trace, step_value, trace)
from tests.calls import NO_NUMBERS, NO_OBJECTS, NO_STRINGS, NO_TUPLES, check_calls, given
from tests.test_questions import drawn_questions
from tests.test_ranking import GOOD, drawn_documents, drawn_parts, plain_points, plain_scan

HUGE = 10 ** 40
NO_TIMES = (*NO_NUMBERS[:-2], -1)
NO_STEPS = (
    *NO_OBJECTS, ["bonus"], ("bonus", 1), ("Bonus",), (b"bonus",), (["bonus"],), ("word",), ("",), ("word", 1, (0, 0)),
    ("word", 1, (0, 0), (0, 0), 1), ["word", 1, (0, 0), (0, 0)], ("words", 2, (0, 0), (0, 1)), ("bonus", 2, (0, 0), (0, 1)),
    (None, 2, (0, 0), (0, 1)), ("word", 0, (0, 0), (0, 1)), ("word", 1, (0, 1), (1, 0)), ("word", 1, (1, 1), (1, 1)),
    ("word", 2, (0, 0), [0, 1]), ("word", 2, [0, 0], (0, 1)), ("word", 2, (0,), (0, 1)), ("word", 2, (0, 0), (0, 1, 1)),
    ("word", 2, 0, 1), (("word",), 2, (0, 0), (0, 1)),
    *(("word", number, (0, 0), (0, 1)) for number in NO_TIMES),
    *(("word", 2, (number, 0), (0, 1)) for number in NO_TIMES), *(("word", 2, (0, number), (0, 1)) for number in NO_TIMES),
    *(("word", 2, (0, 1), (number, 0)) for number in NO_TIMES), *(("word", 2, (0, 1), (0, number)) for number in NO_TIMES),
)


def plain_value(parts, number, times):
    heads, bodies, rare = parts[:3]
    return plain_points(rare, number - 1) * (plain_points(heads, times[0]) + plain_points(bodies, times[1]))


def all_times(most=6):
    return [(head, body) for head in range(most) for body in range(most)]


def plain_multipliers(one, two):
    """The least m and n by a table of all classes and numbers of times."""
    table = {(plain_value(one, number, times), plain_value(two, number, times))
             for number in range(1, 7) for times in all_times()} | {(one[3], two[3])}
    if table == {(0, 0)}:
        return (1, 1)
    for m in range(1, 60):
        for n in range(1, 60):
            if math.gcd(m, n) == 1 and all(m * first == n * second for first, second in table):
                return (m, n)
    return None


def plain_blind(parts):
    return len(set(parts[2])) == 1 or set(parts[0] + parts[1]) == {0}


def plain_alike(one, two):
    counted = one[5] == two[5] or plain_blind(one) and plain_blind(two)
    return plain_multipliers(one, two) is not None and one[4] == two[4] and counted


def longer(draw, numbers, most):
    """The same numbers with the last one some times more."""
    return numbers + numbers[-1:] * draw.randint(0, most - len(numbers))


def likened(draw, parts):
    """The parts of a rank that is alike: longer rows, and numbers taken some times."""
    heads, bodies, rare, bonus, ties, counted = parts
    points = [times for times in range(1, 10) if max(heads + bodies) * times <= 9]
    factors = [times for times in (1, 2, 3) if max(rare) * times <= 3]
    pairs = [(p, f) for p in points for f in factors if bonus * p * f <= 9]
    times, factor = draw.choice(pairs)
    if plain_blind(parts):
        counted = draw.choice(("seen", "all"))
    return (longer(draw, tuple(number * times for number in heads), 5), longer(draw, tuple(number * times for number in bodies), 5),
            longer(draw, tuple(number * factor for number in rare), 4), bonus * times * factor, ties, counted)


def small_parts(draw):
    """The parts of a rank with small numbers, of which many others are alike."""
    return ((0, *(draw.randint(0, 2) for _ in range(draw.randint(0, 2)))), (0, *(draw.randint(0, 2) for _ in range(draw.randint(0, 2)))),
            tuple(draw.choice((0, 1, 1)) for _ in range(draw.randint(1, 2))), draw.randint(0, 2),
            draw.choice(("young", "key")), draw.choice(("seen", "all")))


def otherwise(draw, parts):
    """The same with one part otherwise."""
    at = draw.randrange(6)
    other = drawn_parts(draw) if draw.random() < 0.5 else small_parts(draw)
    return parts[:at] + other[at:at + 1] + parts[at + 1:]


def drawn_pairs(draw, many):
    pairs = []
    for _ in range(many):
        one = draw.choice((drawn_parts, small_parts))(draw)
        two = likened(draw, one)
        pairs.append((one, two) if draw.random() < 0.5 else (one, otherwise(draw, two)))
    return pairs


def plain_steps(one, two):
    """The pairs of values of all steps, by a table, forwards and backwards."""
    found = {(one[3], two[3])}
    for number in range(1, 6):
        for times in all_times():
            for other in all_times() if number > 1 else [(0, 0)]:
                found.add(tuple(plain_value(parts, number, times) - plain_value(parts, number, other) for parts in (one, two)))
    return found | {(-first, -second) for first, second in found}


def sign(number):
    return (number > 0) - (number < 0)


def plain_number(one, two, most):
    """The least parting number by all sums of so many steps."""
    steps = plain_steps(one, two)
    sums = {(0, 0)}
    for number in range(1, most + 1):
        sums = {(first + more, second + further) for first, second in sums for more, further in steps}
        if any(sign(first) != sign(second) for first, second in sums):
            return number
    return None


def plain_step_value(parts, step):
    if step == ("bonus",):
        return parts[3]
    return plain_value(parts, step[1], step[2]) - plain_value(parts, step[1], step[3])


def made_documents(steps, keys):
    """Row documents, with a question, of which the two first keys' scores differ by the sum of some steps."""
    rows = {key: ([], []) for key in (*keys, *range(11, 20))}
    asked = []
    for step, times in steps:
        for _ in range(abs(times)):
            term = f"t{len(asked)}"
            key, other = keys if times > 0 else keys[::-1]
            if step == ("bonus",):
                asked.append(("row", "any", (term, "row")))
                rows[key][0].extend((term, "row"))
                continue
            asked.append(("word", "any", term))
            _, number, stood, after = step
            for one, (head, body) in ((key, stood), (other, after)):
                rows[one][0].extend([term] * head)
                rows[one][1].extend([term] * body)
            having = (sum(stood) > 0) + (sum(after) > 0)
            for beside in range(11, 11 + 2 ** (number - 1) - having):
                rows[beside][0].append(term)
    documents = tuple((key, 0, tuple(head), tuple(body)) for key, (head, body) in sorted(rows.items()))
    return documents, ("any", (*asked, ("not", ("word", "any", "strange"))))


class AlikeTest(unittest.TestCase):
    def compare(self, one, two):
        first, second = Rank(*one), Rank(*two)
        self.assertIs(ranked_alike(first, second), plain_alike(one, two))
        self.assertIs(ranked_alike(other=second, rank=first), plain_alike(one, two))
        self.assertEqual(multipliers(first, second), plain_multipliers(one, two))
        back = multipliers(other=first, rank=second)
        self.assertEqual(back, back and multipliers(first, second)[::-1])
        return ranked_alike(first, second)

    def test_longer_rows_and_numbers_taken_some_times(self):
        draw = random.Random(26)
        for _ in range(150):
            one = draw.choice((drawn_parts, small_parts))(draw)
            self.assertTrue(self.compare(one, likened(draw, one)))

    def test_one_part_otherwise(self):
        draw = random.Random(27)
        told = []
        for _ in range(400):
            one = draw.choice((drawn_parts, small_parts))(draw)
            told.append(self.compare(one, otherwise(draw, likened(draw, one))))
        self.assertGreater(told.count(True), 40)
        self.assertGreater(told.count(False), 200)

    def test_ranks_that_give_nothing(self):
        nothing = ((0,), (0, 0), (3, 1), 0, "key", "seen")
        self.assertTrue(self.compare(nothing, ((0, 5), (0,), (0,), 0, "key", "all")))
        self.assertEqual(multipliers(Rank(*nothing), Rank(*nothing)), (1, 1))
        for other in (((0, 1), (0,), (1,), 0, "key"), ((0,), (0,), (1,), 1, "key"), ((0,), (0,), (1,), 0, "old")):
            self.assertFalse(self.compare(nothing, (*other, "seen")))
            self.assertFalse(self.compare((*other, "seen"), nothing))

    def test_counted_matters_unless_both_are_blind(self):
        one = ((0, 1), (0, 2), (3, 1), 0, "key")
        self.assertFalse(self.compare((*one, "seen"), (*one, "all")))
        blind = ((0, 1), (0, 2), (2, 2), 3, "key")
        self.assertTrue(self.compare((*blind, "seen"), (*blind, "all")))
        pointless = ((0, 0), (0,), (3, 1), 3, "key")
        self.assertTrue(self.compare((*pointless, "seen"), (*pointless[:2], (1,), 3, "key", "all")))

    def test_ties_and_counted_do_not_touch_multipliers(self):
        one, two = ((0, 1), (0, 2), (3, 1), 2, "key", "seen"), ((0, 2), (0, 4), (3, 1), 4, "old", "all")
        self.assertEqual(multipliers(Rank(*one), Rank(*two)), (2, 1))
        self.assertFalse(self.compare(one, two))

    def test_points_and_factors_may_make_up_for_one_another(self):
        one, two = ((0, 2), (0, 4), (3, 0), 6, "old", "seen"), ((0, 3), (0, 6), (1, 0), 3, "old", "seen")
        self.assertTrue(self.compare(one, two))
        self.assertEqual(multipliers(Rank(*one), Rank(*two)), (1, 2))

    def test_documents_stand_in_the_same_order_by_alike_ranks(self):
        draw = random.Random(28)
        questions = drawn_questions(draw, 120)
        for question in questions:
            one = drawn_parts(draw)
            two = likened(draw, one)
            m, n = multipliers(Rank(*one), Rank(*two))
            documents = drawn_documents(draw, 12, range(1, 60, 2))
            further = drawn_documents(draw, 5, range(2, 60, 2))
            first, second = (ranked(documents, further, question, Rank(*parts), 40) for parts in (one, two))
            self.assertEqual([key for key, _ in first], [key for key, _ in second])
            if plain_multipliers(one, two) != (1, 1):
                self.assertEqual([m * points for _, points in first], [n * points for _, points in second])

    def test_wrong(self):
        wrongs = given(errors.NotARank, *NO_OBJECTS, GOOD)
        for call in (ranked_alike, multipliers, parting):
            check_calls(self, call, ("rank", Rank(*GOOD), wrongs), ("other", Rank((0,), (0,), (1,), 0, "key"), wrongs))


class StepTest(unittest.TestCase):
    rank = Rank((0, 5, 7), (0, 1), (3, 2, 0), 4, "key")

    def test_values(self):
        steps = {("bonus",): 4, ("word", 1, (1, 0), (0, 0)): 15, ("word", 1, (0, 0), (2, 1)): -24, ("word", 1, (0, 0), (0, 0)): 0,
                 ("word", 2, (1, 0), (2, 1)): -6, ("word", 3, (9, 9), (0, 0)): 0, ("word", HUGE, (9, 9), (0, 0)): 0,
                 ("word", 2, (HUGE, 0), (1, HUGE)): 2, ("word", 2, (1, 1), (1, 1)): 0}
        for step, value in steps.items():
            self.assertEqual(step_value(self.rank, step), value)
            self.assertEqual(step_value(step=step, rank=self.rank), value)
        self.assertEqual(step_value(Rank((0, 1), (0,), (3,), 0, "key"), ("word", HUGE, (1, 0), (0, 0))), 3)

    def test_drawn_steps(self):
        draw = random.Random(29)
        for _ in range(300):
            parts = drawn_parts(draw)
            stood, after = ((draw.choice((0, 1, 2, 4, 9)), draw.choice((0, 1, 3, 5))) for _ in range(2))
            step = ("word", draw.choice((2, 3, 4, 5, 9)), stood, after)
            self.assertEqual(step_value(Rank(*parts), step), plain_step_value(parts, step))

    def test_wrong(self):
        check_calls(self, step_value, ("rank", self.rank, given(errors.NotARank, *NO_OBJECTS, GOOD)),
                    ("step", ("bonus",), given(errors.InvalidStep, *NO_STEPS)))


class IsPartingTest(unittest.TestCase):
    one, three = Rank((0, 1), (0, 2), (3, 1), 1, "key"), Rank((0, 1), (0, 3), (3, 1), 1, "key")
    first, second = ("word", 2, (0, 1), (1, 0)), ("bonus",)

    def test_what_parts(self):
        # By the ranks the steps are worth 1 and 1, and 2 and 1.
        for value, expected in ((((self.first, 1), (self.second, -1)), True), (((self.second, -1), (self.first, 1)), True),
                                (((self.first, -1), (self.second, 1)), True), (((self.first, 2), (self.second, -3)), True),
                                (((self.first, 1), (self.second, -2)), True), (((self.first, 1), (self.second, -3)), False),
                                (((self.first, HUGE), (self.second, -HUGE)), True), (((self.first, 1),), False),
                                (((self.first, 1), (self.second, 1)), False), ((), False)):
            self.assertIs(is_parting(self.one, self.three, value), expected)
            self.assertIs(is_parting(other=self.three, value=value, rank=self.one), expected)
            self.assertFalse(is_parting(self.one, self.one, value))

    def test_one_sign_is_nought(self):
        without = Rank((0, 1), (0, 2), (3, 1), 0, "key")
        self.assertTrue(is_parting(self.one, without, ((("bonus",), 7),)))
        self.assertTrue(is_parting(without, self.one, ((("bonus",), -7),)))

    def test_values_of_all_kinds(self):
        good = ((self.first, 1), (self.second, -1))
        wrongs = [*NO_OBJECTS, list(good), *((value,) for value in NO_OBJECTS), (good[0], list(good[1])), (good[0], good[1], None),
                  (good[0], (self.second,)), (good[0], (self.second, -1, 1)), (good[0], self.second), (*good, good),
                  (*good, (self.first, 1)), (*good, (self.second, 2)), (*good, (("bonus",), -1)), (*good, (("word", 3, (0, 0), (0, 0)), 0))]
        wrongs.extend((good[0], (self.second, -1), (step, 1)) for step in NO_STEPS)
        wrongs.extend((good[0], (self.second, times)) for times in (0, None, True, False, "1", (1,), [1], -HUGE, {}))
        for value in wrongs:
            self.assertIs(is_parting(self.one, self.three, value), False, value)
        self.assertIs(is_parting(self.one, self.three, (*good, (("word", 3, (0, 0), (0, 0)), 5))), True)

    def test_drawn_values(self):
        draw = random.Random(30)
        told = []
        for one, two in drawn_pairs(draw, 700):
            steps = {("word", draw.randint(2, 5), (draw.randint(0, 3), draw.randint(0, 3)), (draw.randint(0, 3), 0)): draw.randint(-3, -1)
                     for _ in range(2)}
            steps["word", 1, (draw.randint(0, 4), draw.randint(0, 4)), (0, 0)] = draw.choice((-2, -1, 1, 2))
            steps["bonus",] = draw.randint(1, 9)
            sums = [sum(plain_step_value(parts, step) * times for step, times in steps.items()) for parts in (one, two)]
            told.append(sign(sums[0]) != sign(sums[1]))
            self.assertIs(is_parting(Rank(*one), Rank(*two), tuple(steps.items())), told[-1])
        self.assertGreater(told.count(True), 20)
        self.assertGreater(told.count(False), 100)

    def test_wrong_ranks(self):
        wrongs = given(errors.NotARank, *NO_OBJECTS, GOOD)
        check_calls(self, is_parting, ("rank", self.one, wrongs), ("other", self.three, wrongs), ("value", 5, []))


class PartingTest(unittest.TestCase):
    def compare(self, one, two, most):
        """Compares the least number, up to most, with all sums; tells it."""
        first, second = Rank(*one), Rank(*two)
        number = plain_number(one, two, most)
        told = parting_number(first, second, 6)
        self.assertEqual(parting_number(most=most, other=second, rank=first), number)
        found = parting(first, second)
        self.assertIs(found is None, multipliers(first, second) is not None)
        self.assertEqual(parting(other=second, rank=first), found)
        if found is not None:
            self.check_parting(one, two, found)
            size = sum(abs(times) for _, times in found)
            self.assertEqual(told, size if size <= 6 else None)
            for bound in range(1, 7):
                self.assertEqual(parting_number(first, second, bound), size if size <= bound else None)
        return told

    def check_parting(self, one, two, found):
        self.assertIs(is_parting(Rank(*one), Rank(*two), found), True)
        sums = [sum(plain_step_value(parts, step) * times for step, times in found) for parts in (one, two)]
        self.assertNotEqual(sign(sums[0]), sign(sums[1]))
        # Where one sum is nought the key must tell the documents otherwise than the other sum.
        keys = (2, 1) if 1 in (sign(sums[0]), sign(sums[1])) else (1, 2)
        documents, question = made_documents(found, keys)
        orders = []
        for parts in (one, two):
            alike = (*parts[:4], "key", parts[5])
            rows = plain_scan(documents, (), question, alike, 40)
            if len(question[1]) <= 6:
                self.assertEqual(ranked(documents, (), question, Rank(*alike), 40), rows)
            orders.append([key for key, _ in rows if key in keys])
        self.assertEqual(sorted(orders), [[1, 2], [2, 1]])

    def test_drawn_ranks(self):
        draw = random.Random(31)
        told = [self.compare(one, two, 1) for one, two in drawn_pairs(draw, 180)]
        self.assertGreater(told.count(1), 30)
        self.assertGreater(told.count(None), 50)

    def test_ranks_parted_by_several_steps(self):
        draw = random.Random(32)
        told = []
        for _ in range(150):
            ratio = draw.choice(((1, 2), (2, 3), (1, 1), (3, 4), (4, 9)))
            one, two = (((0, number), (0,), (draw.randint(1, 2),), draw.randint(0, 9), "key", "seen")
                        for number in ratio)
            told.append(self.compare(one, two, 6))
        for number in (1, 2, 3, 4, 5, None):
            self.assertIn(number, told)
        three = (((0, 2, 4), (0,), (2, 1), 3, "key", "seen"), ((0, 3, 6), (0,), (2, 1), 4, "key", "seen"))
        self.assertEqual(self.compare(*three, 5), 4)

    def test_numbers_beyond_six(self):
        for one, two in (((9, 1), (8, 1)), ((9, 8), (8, 7)), ((7, 9), (8, 9)), ((9, 6), (7, 5)), ((3, 2), (2, 1)), ((6, 1), (7, 1)),
                         ((5, 1), (6, 1)), ((4, 1), (5, 1))):
            parts = [((0, points), (0,), (1,), bonus, "old", "seen") for points, bonus in (one, two)]
            least = min(abs(i) + abs(j) for i in range(-40, 41) for j in range(-40, 41)
                        if sign(i * one[0] + j * one[1]) != sign(i * two[0] + j * two[1]))
            found = parting(*(Rank(*part) for part in parts))
            self.check_parting(*parts, found)
            self.assertEqual(sum(abs(times) for _, times in found), least)
            self.assertEqual(self.compare(*parts, 6), least if least <= 6 else None)

    def test_parted_by_a_step_of_the_second_class_alone(self):
        # From nothing a head and a body are always worth something; beside one another they are not in the first rank.
        one, two = ((0, 1), (0, 1), (1,), 0, "key", "seen"), ((0, 1), (0, 2), (1,), 0, "key", "seen")
        self.assertEqual(self.compare(one, two, 1), 1)
        self.assertEqual(parting_number(Rank((0, 1), (0, 1), (1, 0), 0, "key"), Rank((0, 1), (0, 2), (1, 0), 0, "key"), 6), 2)

    def test_ties_and_counted_are_no_parting(self):
        one = ((0, 1), (0,), (3, 1), 1, "key", "seen")
        for two in ((*one[:4], "old", "seen"), (*one[:5], "all")):
            self.assertIsNone(self.compare(one, two, 1))
            self.assertFalse(ranked_alike(Rank(*one), Rank(*two)))

    def test_wrong(self):
        wrongs = given(errors.NotARank, *NO_OBJECTS, GOOD)
        check_calls(self, parting_number, ("rank", Rank(*GOOD), wrongs), ("other", Rank((0,), (0,), (1,), 0, "key"), wrongs),
                    ("most", 6, given(errors.InvalidNumber, *NO_NUMBERS, 0, 7)))


class TraceTest(unittest.TestCase):
    def test_ranks_with_a_trace(self):
        draw = random.Random(33)
        told = []
        for _ in range(400):
            parts = draw.choice((drawn_parts, small_parts))(draw)
            rank = Rank(*parts)
            told.append(parts[5] == "all" and not plain_blind(parts))
            self.assertIs(shows_trace(rank), told[-1])
            self.assertIs(shows_trace(rank=rank), told[-1])
            found = trace(rank=rank)
            self.assertEqual(found, trace(rank))
            if told[-1]:
                documents, further, question = found
                self.assertNotEqual(ranked(documents, further, question, rank, 40), ranked(documents, (), question, rank, 40))
                self.assertNotEqual(plain_scan(documents, further, question, parts, 40), plain_scan(documents, (), question, parts, 40))
            else:
                self.assertIsNone(found)
        self.assertGreater(told.count(True), 50)
        self.assertGreater(told.count(False), 100)

    def test_only_the_last_factor_or_the_last_points_differ(self):
        for parts in (((0, 0, 0, 0, 1), (0,), (2, 2, 2, 1), 0, "old", "all"), ((0,), (0, 0, 9), (0, 0, 1), 9, "key", "all"),
                      ((0, 1), (0,), (0, 3), 0, "young", "all"), ((0, 3, 0), (0, 3, 0), (1, 2), 0, "young", "all")):
            documents, further, question = trace(Rank(*parts))
            self.assertNotEqual(plain_scan(documents, further, question, parts, 40), plain_scan(documents, (), question, parts, 40))

    def test_further_documents_turn_no_scan_without_a_trace(self):
        draw = random.Random(34)
        for question in drawn_questions(draw, 150):
            parts = drawn_parts(draw)
            if draw.random() < 0.5:
                parts = (*parts[:2], parts[2][:1] * 3, *parts[3:5], "all")
            elif draw.random() < 0.5:
                parts = ((0, 0), (0,), *parts[2:5], "all")
            else:
                parts = (*parts[:5], "seen")
            self.assertIsNone(trace(Rank(*parts)))
            documents, further = drawn_documents(draw, 8, range(1, 60, 2)), drawn_documents(draw, 8, range(2, 60, 2))
            told = ranked(documents, (), question, Rank(*parts), 40)
            self.assertEqual(ranked(documents, further, question, Rank(*parts), 40), told)

    def test_wrong(self):
        for call in (shows_trace, trace):
            check_calls(self, call, ("rank", Rank(*GOOD), given(errors.NotARank, *NO_OBJECTS, GOOD)))


if __name__ == "__main__":
    unittest.main()

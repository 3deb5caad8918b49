"""Pages: point 46 and the section of the pages."""

import random
import unittest

from plainscan import errors
from plainscan.documents import Log
from plainscan.pages import is_place, page_of
from plainscan.ranking import Rank
from plainscan.scans import scan_count
from tests.calls import NO_OBJECTS, check_calls, given, raised
from tests.test_documents import drawn_changes, plain_counts, replayed
from tests.test_questions import CAT, drawn_questions
from tests.test_ranking import drawn_parts, plain_scan
from tests.test_scans import (
    ASKERS, LOG, NO_COUNTS, PLAIN, RANK, TRACED, drawn_text, drawn_texts, rows_of, traceless, with_unseen, wrongs_of)

NO_PLACES = (*NO_OBJECTS, (), (1,), (1, 2, 3), [1, 2], "ab", ((1, 2), 3), *((number, 0) for number in NO_COUNTS),
             *((0, number) for number in NO_COUNTS))


def all_pages(log, count, asker, question, rank, many, test):
    """The rows of all pages of a count, each at the place that the one before told."""
    place, rows, is_more = (count, 0), (), True
    while is_more:
        told = page_of(log, PLAIN, place, asker, question, rank, many)
        test.assertEqual(told, page_of(rank=rank, question=question, asker=asker, place=place, rule=PLAIN, log=log, many=many))
        behind, found, is_more = told
        test.assertIs(type(is_more), bool)
        test.assertEqual(behind, (count, place[1] + len(found)))
        test.assertEqual(len(found), many if is_more else len(found))
        test.assertTrue(found or place[1] == 0)
        place, rows = behind, rows + found
    return rows


class PlaceTest(unittest.TestCase):
    def test_places(self):
        for place in ((0, 0), (200, 3), (10 ** 59, 10 ** 59)):
            self.assertIs(is_place(place), True)
            self.assertIs(is_place(value=place), True)
        for value in NO_PLACES:
            self.assertIs(is_place(value), False, value)


class PageTest(unittest.TestCase):
    def test_pages_of_a_small_scan(self):
        told = {(2, 0, 1): ((2, 1), ((7, 2),), True), (2, 0, 2): ((2, 2), ((7, 2), (4, 2)), False),
                (2, 0, 3): ((2, 2), ((7, 2), (4, 2)), False), (2, 1, 1): ((2, 2), ((4, 2),), False), (2, 2, 1): ((2, 2), (), False),
                (2, 10 ** 59, 40): ((2, 10 ** 59), (), False), (0, 0, 5): ((0, 0), (), False), (1, 0, 5): ((1, 1), ((4, 3),), False)}
        for (count, at, many), page in told.items():
            self.assertEqual(page_of(LOG, PLAIN, (count, at), "a", CAT, RANK, many), page)

    def test_below_the_fence(self):
        # The asker "" is shown nothing from count 2 on: its fence is 2.
        self.assertEqual(LOG.fence(""), 2)
        self.assertEqual(page_of(LOG, PLAIN, (1, 0), "", CAT, RANK, 5), ((1, 1), ((4, 3),), False))

    def test_more_than_forty_rows(self):
        draw = random.Random(46)
        changes = tuple(("put", (key, draw.randint(0, 3), (), "cat " * draw.randint(0, 3), drawn_text(draw))) for key in range(1, 201))
        log = Log(changes)
        for count, many in ((200, 40), (200, 7), (81, 40), (80, 40), (41, 40), (40, 40), (200, 1), (199, 39)):
            parts = traceless(drawn_parts(draw))
            question = draw.choice((("not", ("word", "any", "strange")), CAT))
            seen = rows_of(log.seen(count, ""), PLAIN)
            expected = plain_scan(seen, (), question, parts, 1000)
            self.assertEqual(all_pages(log, count, "", question, Rank(*parts), many, self), expected)
            keys = [key for key, _ in expected]
            self.assertEqual(len(set(keys)), len(keys))

    def test_drawn_logs(self):
        draw = random.Random(47)
        for _ in range(30):
            changes, asker = drawn_changes(draw, draw.randint(0, 40), 9, drawn_texts), draw.choice(ASKERS)
            log = Log(changes)
            seen, counts = plain_counts(replayed(changes), asker)
            version = draw.randrange(len(counts))
            question, parts, many = drawn_questions(draw, 1)[0], traceless(drawn_parts(draw)), draw.randint(1, 4)
            expected = plain_scan(rows_of(seen[version], PLAIN), (), question, parts, 1000)
            self.assertEqual(all_pages(log, counts[version], asker, question, Rank(*parts), many, self), expected)
            self.assertEqual(scan_count(log, PLAIN, counts[version], asker, question, Rank(*parts), 40), expected[:40])

    def test_places_that_somebody_made_up(self):
        draw = random.Random(48)
        log = Log(tuple(("put", (key, key % 3, (), "cat", drawn_text(draw))) for key in range(1, 60)))
        whole = plain_scan(rows_of(log.seen(50, ""), PLAIN), (), CAT, RANK.parts, 1000)
        for _ in range(60):
            at, many = draw.randint(0, 60), draw.randint(1, 40)
            rows = whole[at:at + many]
            page = page_of(log, PLAIN, (50, at), "", CAT, RANK, many)
            self.assertEqual(page, ((50, at + len(rows)), rows, at + many < len(whole)))

    def test_whatever_happens_in_between(self):
        draw = random.Random(49)
        for _ in range(15):
            changes, asker = drawn_changes(draw, 20, 6, drawn_texts), draw.choice(ASKERS)
            short = Log(changes[:12])
            count = short.count(12, asker)
            longer, hidden = Log(changes), Log(with_unseen(draw, changes, asker, 12))
            question, rank = drawn_questions(draw, 1)[0], Rank(*traceless(drawn_parts(draw)))
            rows = all_pages(short, count, asker, question, rank, 1, self)
            for log in (longer, hidden):
                self.assertEqual(all_pages(log, count, asker, question, rank, 1, self), rows)

    def test_wrong(self):
        arguments = wrongs_of("place", (3, 0), NO_COUNTS)
        arguments[2] = ("place", (3, 0), given(errors.InvalidPlace, *NO_PLACES))
        check_calls(self, page_of, *arguments)

    def test_what_comes_last(self):
        for count in (4, 201, 10 ** 59):
            error = raised(page_of, LOG, PLAIN, (count, 0), "a", CAT, RANK, 1)
            self.assertEqual((type(error), error.given), (errors.InvalidNumber, count))
            self.assertIs(type(raised(page_of, LOG, PLAIN, (count, 0), "a", CAT, TRACED, 1)), errors.Trace)
            self.assertIs(type(raised(page_of, LOG, PLAIN, (count, 0), "a", CAT, TRACED, 0)), errors.InvalidNumber)
        self.assertEqual(vars(raised(page_of, LOG, PLAIN, (0, 0), "a", CAT, TRACED, 1)), {})


if __name__ == "__main__":
    unittest.main()

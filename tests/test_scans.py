"""Plain scans: points 15, 17, 19 and 25 and the section of the scans."""

import random
import unittest

from plainscan import errors
from plainscan.documents import Log
from plainscan.ranking import Rank
from plainscan.scans import row_documents, scan, scan_count
from plainscan.words import WordRule, plain_rule
from tests.calls import NO_NUMBERS, NO_OBJECTS, check_calls, given, raised
from tests.test_documents import drawn_changes, plain_counts, replayed
from tests.test_questions import CAT, NO_QUESTIONS, drawn_questions
from tests.test_ranking import GOOD, drawn_parts, plain_scan
from tests.test_rankinglikes import plain_blind
from tests.test_rights import NO_ASKERS
from tests.test_words import drawn_rule, plain_reading

PLAIN = plain_rule()
A = ("badge", "a")
DOC, SECRET = (4, 20, (), "Dogs", "A dog and a cat"), (7, 21, ("pay",), "Pay", "The cat's pay")
LOG = Log((("put", DOC), ("put", SECRET), ("policy", (("pay", A),)), ("label", 4, ("pay",)), ("gone", 7)))
RANK = Rank((0, 5, 7), (0, 1, 2, 3), (3, 2, 1), 4, "young")
TRACED = Rank((0, 1), (0,), (3, 1), 1, "key", "all")
NO_COUNTS = tuple(value for value in NO_NUMBERS if value != 10 ** 59)
ASKERS = ("", "a", "b", "ab", "cd")


def drawn_text(draw, most=8):
    words = ("cat", "cats", "Red", "red", "ca", "c", "the", "of", "x", "r~", "Reds", "'cat'", "--")
    return draw.choice((" ", ", ", "-")).join(draw.choice(words) for _ in range(draw.randint(0, most)))


def drawn_texts(draw):
    return drawn_text(draw, 3), drawn_text(draw)


def rows_of(documents, rule):
    return tuple((key, day, plain_reading(rule.parts, head), plain_reading(rule.parts, body)) for key, day, head, body in documents)


def plain_rows(documents, rights, rule, asker):
    """The row documents that an asker sees, and those that it does not, by a plain reading of all."""
    seen = plain_counts([(documents, rights)], asker)[0][0]
    keys = [document[0] for document in seen]
    further = tuple((key, day, head, body) for key, day, _, head, body in documents if key not in keys)
    return rows_of(seen, rule), rows_of(further, rule)


def traceless(parts):
    """The parts of a rank, with COUNTED seen if it would show a trace."""
    return parts if plain_blind(parts) else (*parts[:5], "seen")


def with_unseen(draw, changes, asker, many):
    """The same changes with so many more between that the asker cannot see."""
    told, there, rights = [], [], ()
    hidden = "".join(badge for badge in "abcdef" if badge not in asker)
    places = sorted(draw.randint(0, len(changes)) for _ in range(many))
    for at in range(len(changes) + 1):
        for _ in range(places.count(at)):
            kind = draw.choice(("put", "policy", "gone", "label"))
            labels = tuple(sorted({"vault", *draw.sample(("pay", "plan", "other"), draw.randint(0, 2))}))
            if kind == "policy":
                told.append((kind, tuple(sorted((*dict(rights).items(), ("vault", ("badge", draw.choice(hidden))))))))
            elif kind == "put" or not there:
                there.append(draw.randint(500, 520))
                told.append(("put", (there[-1], draw.randint(0, 9), labels, *drawn_texts(draw))))
            elif kind == "label":
                told.append((kind, draw.choice(there), labels))
            else:
                key = draw.choice(there)
                there = [one for one in there if one != key]
                told.append((kind, key))
        if at < len(changes):
            told.append(changes[at])
            rights = changes[at][1] if changes[at][0] == "policy" else rights
    return tuple(told)


class RowDocumentsTest(unittest.TestCase):
    def test_seen_and_not_seen(self):
        dogs, pay = (4, 20, ("dog",), (None, "dog", "and", None, "cat")), (7, 21, ("pay",), (None, "cat", "pay"))
        told = {(0, "a"): ((), ()), (1, ""): ((dogs,), ()), (2, "a"): ((dogs,), (pay,)), (3, "a"): ((dogs, pay), ()),
                (3, "b"): ((dogs,), (pay,)), (4, "b"): ((), (dogs, pay)), (5, "a"): ((dogs,), ()), (5, ""): ((), (dogs,))}
        for (version, asker), rows in told.items():
            self.assertEqual(row_documents(LOG, PLAIN, version, asker), rows)
            self.assertEqual(row_documents(asker=asker, version=version, rule=PLAIN, log=LOG), rows)

    def test_wrong(self):
        check_calls(self, row_documents, *wrongs_of("version", 5, [*NO_NUMBERS, 6])[:4])


def wrongs_of(told, good, numbers):
    """The arguments of a scan with their wrong values, the third one being of some name."""
    return [("log", LOG, given(errors.NotALog, *NO_OBJECTS, LOG.changes)),
            ("rule", PLAIN, given(errors.NotAWordRule, *NO_OBJECTS, PLAIN.parts)),
            (told, good, given(errors.InvalidNumber, *numbers)),
            ("asker", "a", given(errors.InvalidAsker, *NO_ASKERS)),
            ("question", CAT, given(errors.InvalidQuestion, *NO_QUESTIONS)),
            ("rank", RANK, given(errors.NotARank, *NO_OBJECTS, GOOD)),
            ("many", 40, given(errors.InvalidNumber, *NO_NUMBERS, 0, 41))]


class ScanTest(unittest.TestCase):
    def test_counted_seen_and_all(self):
        log = LOG.then(("put", (9, 0, ("vault",), "cat", "")))
        for counted, expected in (("seen", ((4, 3),)), ("all", ((4, 2),))):
            rank = Rank((0, 5, 7), (0, 1, 2, 3), (3, 2, 1), 4, "young", counted)
            self.assertEqual(scan(log, PLAIN, 6, "a", CAT, rank, 5), expected)
            self.assertEqual(scan(log, PLAIN, 6, "", CAT, rank, 5), ())
            self.assertEqual(scan(log, PLAIN, 5, "a", CAT, rank, 5), ((4, 3),))

    def test_another_rule(self):
        self.assertEqual(scan(LOG, WordRule("cat"), 3, "a", CAT, RANK, 5), ((7, 2), (4, 2)))
        self.assertEqual(scan(LOG, WordRule("cat'"), 3, "a", CAT, RANK, 5), ((4, 3),))
        self.assertEqual(scan(LOG, WordRule("cat'"), 3, "a", ("word", "any", "a"), RANK, 5), ((7, 12), (4, 4)))

    def test_the_first_many(self):
        log = Log(tuple(("put", (key, 0, (), "cat", "")) for key in range(1, 101)))
        for many in (1, 2, 39, 40):
            rows = tuple((key, 5) for key in range(1, many + 1))
            self.assertEqual(scan(log, PLAIN, 100, "", CAT, RANK, many), rows)
            self.assertEqual(scan_count(log, PLAIN, 100, "", CAT, RANK, many), rows)

    def test_wrong(self):
        check_calls(self, scan, *wrongs_of("version", 5, [*NO_NUMBERS, 6]))
        check_calls(self, scan_count, *wrongs_of("count", 3, NO_COUNTS))

    def test_what_a_count_wants_last(self):
        for count in (4, 201, 10 ** 59):
            error = raised(scan_count, LOG, PLAIN, count, "a", CAT, RANK, 1)
            self.assertEqual((type(error), error.given), (errors.InvalidNumber, count))
            # The trace goes ahead of a count that is not there, and behind all else.
            self.assertIs(type(raised(scan_count, LOG, PLAIN, count, "a", CAT, TRACED, 1)), errors.Trace)
            self.assertIs(type(raised(scan_count, LOG, PLAIN, count, "a", CAT, TRACED, 0)), errors.InvalidNumber)
            self.assertIs(type(raised(scan_count, LOG, PLAIN, count, "ba", CAT, TRACED, 1)), errors.InvalidAsker)
        self.assertIs(type(raised(scan_count, LOG, PLAIN, 3, "", CAT, RANK, 1)), errors.InvalidNumber)
        self.assertEqual(vars(raised(scan_count, LOG, PLAIN, 0, "", CAT, TRACED, 1)), {})

    def test_blind_ranks_may_count_all(self):
        for parts in (((0, 1), (0,), (2, 2), 1, "key", "all"), ((0,), (0, 0), (3, 1), 1, "key", "all")):
            told = scan_count(LOG, PLAIN, 2, "a", CAT, Rank(*parts), 9)
            self.assertEqual(told, scan(LOG, PLAIN, 3, "a", CAT, Rank(*parts[:5]), 9))


class ReplayTest(unittest.TestCase):
    def compare(self, draw, changes, asker, rule):
        """Compares all versions and counts with a plain replay and a plain reckoning."""
        log, versions = Log(changes), replayed(changes)
        _, counts = plain_counts(versions, asker)
        questions = drawn_questions(draw, 3)
        for version, (documents, rights) in enumerate(versions):
            seen, further = plain_rows(documents, rights, rule, asker)
            self.assertEqual(row_documents(log, rule, version, asker), (seen, further))
            question, parts, many = draw.choice(questions), drawn_parts(draw), draw.randint(1, 12)
            expected = plain_scan(seen, further, question, parts, many)
            self.assertEqual(scan(log, rule, version, asker, question, Rank(*parts), many), expected)
            parts = traceless(parts)
            expected = plain_scan(seen, further, question, parts, many)
            self.assertEqual(scan_count(log, rule, counts[version], asker, question, Rank(*parts), many), expected)
            self.assertEqual(scan_count(many=many, rank=Rank(*parts), question=question, asker=asker, count=counts[version],
                                        rule=rule, log=log), expected)
        self.assertIsNotNone(raised(scan_count, log, rule, counts[-1] + 1, asker, CAT, RANK, 1))

    def test_drawn_logs(self):
        draw = random.Random(15)
        for _ in range(25):
            changes = drawn_changes(draw, draw.randint(0, 40), 8, drawn_texts)
            self.compare(draw, changes, draw.choice(ASKERS), PLAIN)

    def test_drawn_rules(self):
        draw = random.Random(17)
        for _ in range(15):
            changes = drawn_changes(draw, 20, 8, drawn_texts)
            self.compare(draw, changes, draw.choice(ASKERS), WordRule(*drawn_rule(draw)))

    def test_two_hundred_changes(self):
        draw = random.Random(25)
        for keys, asker in ((12, "a"), (150, "b")):
            self.compare(draw, drawn_changes(draw, 200, keys, drawn_texts), asker, PLAIN)

    def test_changes_between_that_the_asker_cannot_see(self):
        draw = random.Random(19)
        for at in range(20):
            changes, asker = drawn_changes(draw, draw.randint(1, 40), 6, drawn_texts), draw.choice(ASKERS)
            more = with_unseen(draw, changes, asker, 160 if at < 2 else 15)
            log, other = Log(changes), Log(more)
            counts = plain_counts(replayed(changes), asker)[1]
            self.assertEqual(plain_counts(replayed(more), asker)[1][-1], counts[-1])
            for count in range(counts[-1] + 1):
                question, rank = drawn_questions(draw, 1)[0], Rank(*traceless(drawn_parts(draw)))
                told = [scan_count(one, PLAIN, count, asker, question, rank, 40) for one in (log, other)]
                self.assertEqual(told[0], told[1])


if __name__ == "__main__":
    unittest.main()

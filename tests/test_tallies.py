"""Tallies: point 49 and the section of the tallies."""

import random
import unittest

from plainscan import errors
from plainscan.documents import Log
from plainscan.scans import row_documents
from plainscan.tallies import added_days, added_terms, tally_days, tally_terms
from tests.calls import NO_NUMBERS, NO_OBJECTS, NO_STRINGS, NO_TUPLES, check_calls, given, indexed
from tests.test_documents import drawn_changes
from tests.test_hints import NO_TERMS
from tests.test_questions import CAT, NO_QUESTIONS, drawn_questions, drawn_row, plain_holds
from tests.test_ranking import wrong_documents
from tests.test_scans import ASKERS, PLAIN, drawn_texts

ROWS = ((1, 5, (), ("cat",)), (2, 9, ("cat",), ()), (3, 9, (), ("cat", "cat")), (4, 9, (), ("dog",)))
EVERY = ("not", ("word", "any", "strange"))
NO_DAYS = (*NO_NUMBERS, 10000)
NO_TIMES = (*(value for value in NO_NUMBERS if value != 10 ** 59), 0)


def dated_documents(draw, many, most_days=9999):
    return tuple((key, draw.choice((0, 1, 9, 10, most_days, draw.randint(0, most_days))), drawn_row(draw), drawn_row(draw))
                 for key in sorted(draw.sample(range(1, 1000), many)))


def plain_days(documents, question, span):
    found = {}
    for _, day, head, body in documents:
        if plain_holds(question, head, body):
            begin = max(first for first in range(0, day + 1, span))
            found.setdefault(begin, []).append(day)
    return tuple((day, len(found[day])) for day in sorted(found))


def plain_terms(documents, question, field):
    rows = [{"head": head, "body": body, "any": head + body}[field] for _, _, head, body in documents
            if plain_holds(question, head, body)]
    terms = sorted({term for row in rows for term in row} - {None})
    told = [(term, len([row for row in rows if term in row])) for term in terms]
    return tuple(sorted(told, key=lambda one: one[1], reverse=True))


def lots_of(draw, documents, many):
    """The documents dealt out to lots, in a drawn order of the lots."""
    lots = [[] for _ in range(many)]
    for document in documents:
        lots[document[0] % many].append(document)
    draw.shuffle(lots)
    return [tuple(lot) for lot in lots]


class TallyTest(unittest.TestCase):
    def test_spans(self):
        documents = tuple((key, day, (), ("cat",)) for key, day in enumerate((0, 1, 6, 7, 7, 13, 14, 9999), 1))
        told = {1: ((0, 1), (1, 1), (6, 1), (7, 2), (13, 1), (14, 1), (9999, 1)), 7: ((0, 3), (7, 3), (14, 1), (9996, 1)),
                9999: ((0, 7), (9999, 1)), 10000: ((0, 8),)}
        for span, expected in told.items():
            self.assertEqual(tally_days(documents, CAT, span), expected)
            self.assertEqual(tally_days(span=span, question=CAT, documents=documents), expected)
            self.assertEqual(tally_days(documents, ("not", CAT), span), ())

    def test_fields(self):
        documents = ((1, 0, ("cat", None, "cat"), ("dog",)), (2, 0, ("dog",), ("ant", "dog")), (3, 0, (None,), ("ant",)))
        told = {"head": (("cat", 1), ("dog", 1)), "body": (("ant", 2), ("dog", 2)), "any": (("ant", 2), ("dog", 2), ("cat", 1))}
        for field, expected in told.items():
            self.assertEqual(tally_terms(documents, EVERY, field), expected)
            self.assertEqual(tally_terms(field=field, question=EVERY, documents=documents), expected)
        self.assertEqual(tally_terms(documents, CAT, "any"), (("cat", 1), ("dog", 1)))
        self.assertEqual(tally_terms((), EVERY, "any"), ())

    def test_drawn_documents(self):
        draw = random.Random(49)
        for question in drawn_questions(draw, 120):
            documents = dated_documents(draw, draw.randint(0, 12), draw.choice((12, 9999)))
            for span in (1, 2, 3, 10, draw.randint(1, 10000)):
                self.assertEqual(tally_days(documents, question, span), plain_days(documents, question, span))
            for field in ("head", "body", "any"):
                self.assertEqual(tally_terms(documents, question, field), plain_terms(documents, question, field))

    def test_two_hundred_documents(self):
        draw = random.Random(50)
        documents = dated_documents(draw, 200)
        self.assertEqual(tally_days(documents, EVERY, 7), plain_days(documents, EVERY, 7))
        many = tuple((key, day, head + (f"t{key}",), body) for key, day, head, body in documents)
        self.assertEqual(tally_terms(many, EVERY, "any"), plain_terms(many, EVERY, "any"))
        self.assertGreater(len(tally_terms(many, EVERY, "any")), 200)

    def test_wrong(self):
        documents = ("documents", ROWS, wrong_documents())
        question = ("question", CAT, given(errors.InvalidQuestion, *NO_QUESTIONS))
        check_calls(self, tally_days, documents, question, ("span", 10000, given(errors.InvalidNumber, *NO_NUMBERS, 0, 10001)))
        check_calls(self, tally_days, documents, question, ("span", 1, []))
        check_calls(self, tally_terms, documents, question,
                    ("field", "any", given(errors.InvalidField, *NO_STRINGS, "", "Any", "heads", "an", "all", ("any",))))


class AddedTest(unittest.TestCase):
    def test_lots_of_documents(self):
        draw = random.Random(51)
        for question in drawn_questions(draw, 60):
            documents = dated_documents(draw, draw.randint(0, 15), 20)
            for many in (1, 2, 3, 4):
                lots = lots_of(draw, documents, many)
                days = tuple(tally_days(lot, question, 5) for lot in lots)
                self.assertEqual(added_days(days), plain_days(documents, question, 5))
                self.assertEqual(added_days((added_days(days[:1]), added_days(days[1:]))), tally_days(documents, question, 5))
                for field in ("head", "body", "any"):
                    terms = tuple(tally_terms(lot, question, field) for lot in lots)
                    self.assertEqual(added_terms(rows=terms), plain_terms(documents, question, field))
                    self.assertEqual(added_terms((added_terms(terms[1:]), added_terms(terms[:1]))), added_terms(terms))

    def test_lots_of_a_seen_set(self):
        draw = random.Random(52)
        for _ in range(15):
            log, asker = Log(drawn_changes(draw, 30, 9, drawn_texts)), draw.choice(ASKERS)
            version = draw.randint(0, 30)
            whole = row_documents(log, PLAIN, version, asker)[0]
            others = log.versions(log.count(version, asker), asker)
            # Each lot is read at a version of its own with the same count.
            lots = tuple(tuple(row for row in row_documents(log, PLAIN, draw.randint(*others), asker)[0] if row[0] % 3 == lot)
                         for lot in range(3))
            self.assertEqual(added_terms(tuple(tally_terms(lot, EVERY, "any") for lot in lots)), plain_terms(whole, EVERY, "any"))
            self.assertEqual(added_days(tuple(tally_days(lot, EVERY, 2) for lot in lots)), plain_days(whole, EVERY, 2))

    def test_the_first_many_terms_of_each_lot_are_not_enough(self):
        lots = ((("cat", 2), ("dog", 1)), (("eel", 2), ("dog", 1)))
        self.assertEqual(added_terms(lots), (("cat", 2), ("dog", 2), ("eel", 2)))
        self.assertEqual(added_terms(tuple(lot[:1] for lot in lots)), (("cat", 2), ("eel", 2)))

    def test_pairs_in_any_order(self):
        self.assertEqual(added_days((((9, 1), (0, 2)), (), ((9, 10 ** 50),))), ((0, 2), (9, 10 ** 50 + 1)))
        self.assertEqual(added_terms(((("a", 1), ("~", 3), ("b", 3)), (("a", 1),))), (("b", 3), ("~", 3), ("a", 2)))
        self.assertEqual((added_days(()), added_terms(()), added_days(((),)), added_terms(((), ()))), ((), (), (), ()))
        self.assertEqual(added_days(rows=(((0, 1), (9999, 1)),)), ((0, 1), (9999, 1)))

    def wrongs(self, good, no_firsts):
        """Wrong rows, made of a good pair, and of what may not stand first in one."""
        kind = errors.InvalidTallies
        first = good[0]
        pairs = (*NO_OBJECTS, (), (first,), (first, 1, 1), [first, 1], ((first, 1),),
                 *((one, 1) for one in no_firsts), *((first, number) for number in NO_TIMES))
        return [
            *indexed(kind, None, *NO_TUPLES, [(good,)]),
            *indexed(kind, 0, good, *((value,) for value in NO_TUPLES if type(value) is not tuple), ([good],), (None, (5,))),
            *indexed(kind, 1, *(((good,), (good, pair)) for pair in pairs), *(((good,), (pair,)) for pair in pairs)),
            *indexed(kind, 1, ((good,), [good]), ((), 5, 6)),
            *indexed(kind, 1, ((good,), (good, good)), ((), (good, (first, 7)), (good, good))),
            *indexed(kind, 2, ((good,), (good,), (pairs[0],)), ((), (), (good, good), None)),
        ]

    def test_wrong(self):
        check_calls(self, added_days, ("rows", (((9999, 1), (0, 1)), ()), self.wrongs((4, 1), NO_DAYS)))
        check_calls(self, added_terms, ("rows", ((("~" * 210, 1), ("a", 1)), ()), self.wrongs(("a", 1), NO_TERMS)))


if __name__ == "__main__":
    unittest.main()

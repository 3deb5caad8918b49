"""Hints: point 41 and the section of the hints."""

import random
import unittest

from plainscan import errors
from plainscan.documents import Log
from plainscan.hints import begun, neighbours
from plainscan.scans import row_documents
from tests.calls import NO_NUMBERS, NO_STRINGS, check_calls, given
from tests.test_documents import drawn_changes, plain_counts, replayed
from tests.test_questions import drawn_row
from tests.test_ranking import drawn_documents, wrong_documents
from tests.test_scans import ASKERS, PLAIN, drawn_texts, rows_of, with_unseen
from tests.test_words import ALL_SIGNS

ROWS = ((1, 5, (), ("cat",)), (2, 9, ("cat", None), ()), (3, 9, ("cat",), ("cat", "cats")), (4, 9, (), ("dog", "Dog")))
NO_STARTS = (*NO_STRINGS, " ", "a b", "cat ", "a" * 201, "50%", "a\n", "\x7f")
NO_TERMS = (*NO_STRINGS, "", " ", "a b", "a" * 211, "50%", "a\t", "\u00e9")
MANY = ("many", 40, given(errors.InvalidNumber, *NO_NUMBERS, 0, 41))


def plain_spreads(documents):
    """For each term how many documents have it, by a look at each term and each document."""
    terms = {term for _, _, head, body in documents for term in (*head, *body)} - {None}
    return {term: sum([term in head or term in body for _, _, head, body in documents]) for term in terms}


def plain_hints(documents, is_told, many):
    told = sorted((term, spread) for term, spread in plain_spreads(documents).items() if is_told(term))
    return tuple(sorted(told, key=lambda hint: hint[1], reverse=True)[:many])


def made_of(term, signs):
    """All that comes of a term by one change of its signs."""
    found = set()
    for at in range(len(term) + 1):
        found.update(term[:at] + sign + term[at:] for sign in signs)
        if at < len(term):
            found.add(term[:at] + term[at + 1:])
            found.update(term[:at] + sign + term[at + 1:] for sign in signs)
        if at + 1 < len(term):
            found.add(term[:at] + term[at + 1] + term[at] + term[at + 2:])
    return found - {term}


def drawn_terms(draw, signs="aab~", most=5):
    return tuple("".join(draw.choice(signs) for _ in range(draw.randint(1, most))) for _ in range(6))


class BegunTest(unittest.TestCase):
    def test_begins(self):
        told = {"": (("cat", 3), ("Dog", 1), ("cats", 1), ("dog", 1)), "c": (("cat", 3), ("cats", 1)), "cats": (("cats", 1),),
                "catsx": (), "D": (("Dog", 1),), "at": (), "a" * 200: ()}
        for start, hints in told.items():
            self.assertEqual(begun(ROWS, start, 40), hints)
            self.assertEqual(begun(many=40, start=start, documents=ROWS), hints)
            for many in (1, 2, 3):
                self.assertEqual(begun(ROWS, start, many), hints[:many])
        self.assertEqual(begun((), "", 40), ())

    def test_drawn_documents(self):
        draw = random.Random(41)
        for _ in range(100):
            documents = drawn_documents(draw, draw.randint(0, 12))
            for start in ("", "c", "ca", "cat", "cats", "r", "x", "r~"):
                many = draw.randint(1, 5)
                expected = plain_hints(documents, lambda term: term[:len(start)] == start, many)
                self.assertEqual(begun(documents, start, many), expected)

    def test_more_than_forty_terms(self):
        documents = tuple((key, 0, (f"t{key:03}",), ("u", f"t{key // 3:03}")) for key in range(1, 201))
        for many in (1, 39, 40):
            self.assertEqual(begun(documents, "t", many), plain_hints(documents, lambda term: term[0] == "t", many))

    def test_wrong(self):
        check_calls(self, begun, ("documents", ROWS, wrong_documents()),
                    ("start", "a" * 200, given(errors.InvalidTerm, *NO_STARTS)), MANY)


class NeighboursTest(unittest.TestCase):
    def test_each_change(self):
        terms = ("cat", "at", "ca", "ct", "cats", "chat", "scat", "bat", "cut", "cab", "act", "cta", "Cat",
                 "cast~", "tac", "dog", "c", "ch", "cth", "tca")
        documents = ((1, 0, terms, ()),)
        near = ("Cat", "act", "at", "bat", "ca", "cab", "cats", "chat", "ct", "cta", "cut", "scat")
        self.assertEqual(neighbours(documents, "cat", 40), tuple((term, 1) for term in near))
        self.assertEqual(neighbours(term="c", many=40, documents=documents), (("ca", 1), ("ch", 1), ("ct", 1)))
        self.assertEqual(neighbours(documents, "x", 40), (("c", 1),))
        self.assertEqual(neighbours(documents, "dogfish", 40), ())
        self.assertEqual(neighbours((), "cat", 40), ())

    def test_signs_that_stand_twice(self):
        documents = ((1, 0, ("aa", "aaa", "aab", "aba", "baa", "abb", "a"), ()),)
        self.assertEqual([term for term, _ in neighbours(documents, "aa", 40)], ["a", "aaa", "aab", "aba", "baa"])
        self.assertEqual([term for term, _ in neighbours(documents, "aaa", 40)], ["aa", "aab", "aba", "baa"])
        self.assertEqual([term for term, _ in neighbours(documents, "aab", 40)], ["aa", "aaa", "aba", "abb"])

    def test_each_pair_of_drawn_terms(self):
        draw = random.Random(42)
        for _ in range(60):
            documents = tuple((key, 0, drawn_terms(draw), drawn_terms(draw)) for key in (1, 2, 3))
            terms = sorted(plain_spreads(documents))
            for term in (*terms, *drawn_terms(draw)):
                near = made_of(term, "ab~")
                self.assertEqual(neighbours(documents, term, 40), plain_hints(documents, near.__contains__, 40))
                self.assertEqual(neighbours(documents, term, 3), plain_hints(documents, near.__contains__, 3))

    def test_all_signs(self):
        signs = ALL_SIGNS[1:]
        terms = tuple(sorted({"ab" + sign for sign in signs} | {sign + "ab" for sign in signs} | {sign + "b" for sign in signs}))
        documents = ((1, 0, terms, (None,)),)
        for term in ("ab", "xy", "~ab", "b", "ba~"):
            near = made_of(term, signs)
            hints = plain_hints(documents, near.__contains__, 1000)
            self.assertEqual(neighbours(documents, term, 40), hints[:40])

    def test_long_terms(self):
        longest = "ab" * 105
        documents = ((1, 0, (longest, longest[1:], longest[:-1], "a" + longest[2:], longest[:100] + "ba" + longest[102:], longest[2:]), ()),)
        near = made_of(longest, "ab")
        self.assertEqual(len(near & set(documents[0][2])), 4)
        self.assertEqual(neighbours(documents, longest, 40), plain_hints(documents, near.__contains__, 40))

    def test_wrong(self):
        check_calls(self, neighbours, ("documents", ROWS, wrong_documents()),
                    ("term", "~" * 210, given(errors.InvalidTerm, *NO_TERMS)), MANY)


class SeenTest(unittest.TestCase):
    def test_hints_are_told_by_the_seen_set(self):
        draw = random.Random(43)
        for _ in range(20):
            changes, asker = drawn_changes(draw, 20, 6, drawn_texts), draw.choice(ASKERS)
            seen, counts = plain_counts(replayed(changes), asker)
            other = Log(with_unseen(draw, changes, asker, 20))
            for version, count in enumerate(counts):
                rows = row_documents(other, PLAIN, other.versions(count, asker)[0], asker)[0]
                start = draw.choice(("", "c", "re"))
                expected = plain_hints(rows_of(seen[version], PLAIN), lambda term: term.startswith(start), 40)
                self.assertEqual(begun(rows, start, 40), expected)

    def test_rows_of_all_lengths(self):
        draw = random.Random(44)
        documents = ((1, 0, ("cat",) * 400, (None,) * 400), (2, 0, drawn_row(draw, 400), drawn_row(draw, 400)))
        self.assertEqual(begun(documents, "", 40), plain_hints(documents, lambda term: True, 40))


if __name__ == "__main__":
    unittest.main()

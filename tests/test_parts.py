"""Parts: points 29, 30 and 31 and the section of the parts."""

import random
import unittest

from plainscan import errors
from plainscan.documents import Log
from plainscan.parts import Part, all_terms, merged, part_of, plain_part, reading, term_list
from plainscan.words import WordRule, plain_rule
from tests.calls import NO_NUMBERS, NO_OBJECTS, NO_TUPLES, check_calls, given, indexed, raised
from tests.test_documents import DOC, NO_DOCUMENTS, NO_KEYS, drawn_changes, replayed
from tests.test_hints import NO_TERMS
from tests.test_scans import LOG, drawn_texts
from tests.test_words import drawn_rule, plain_reading

PLAIN = plain_rule()
OTHER = (4, 21, (), "", "")
NO_STAMPS = (*NO_NUMBERS, 0, 201)
NO_ENTRIES = (
    *NO_OBJECTS, [4, 1, DOC], (4, 1), (4, 1, DOC, 1), (DOC, 1, 4), (5, 1, DOC), (4, 1, (5, *DOC[1:])),
    *((key, 1, None) for key in NO_KEYS), *((4, stamp, DOC) for stamp in NO_STAMPS), *((4, stamp, None) for stamp in NO_STAMPS),
    *((4, 1, value) for value in NO_DOCUMENTS if value is not None),
)
FLOOR = ("floor", 200, given(errors.InvalidNumber, *NO_NUMBERS, 201))
VERSION = ("version", 200, given(errors.InvalidNumber, *NO_NUMBERS, 201))
RULE = ("rule", PLAIN, given(errors.NotAWordRule, *NO_OBJECTS, PLAIN.parts))


def plain_entries(changes):
    """The entries of all changes, by a replay from nothing."""
    versions, entries = replayed(changes), []
    for number, change in enumerate(changes, 1):
        if change[0] == "policy":
            continue
        key = change[1][0] if change[0] == "put" else change[1]
        there = {document[0]: document for document in versions[number][0]}
        entries.append((key, number, there.get(key)))
    return tuple(sorted(entries, key=lambda entry: entry[:2]))


def plain_merged(entries, floor, whole):
    """What is left of some entries, each judged by all of them."""
    kept = []
    for key, stamp, thing in set(entries):
        greater = [other for one, other, _ in entries if one == key and stamp < other <= floor]
        if greater or whole and stamp <= floor and thing is None:
            continue
        kept.append((key, stamp, thing))
    return tuple(sorted(kept, key=lambda entry: entry[:2]))


def dealt(draw, entries, many):
    """Parts that have the entries together, some of which two of them have."""
    lots = [[] for _ in range(many)]
    for entry in entries:
        for lot in draw.sample(lots, min(many, draw.choice((1, 1, 2)))):
            lot.append(entry)
    return [Part(tuple(lot)) for lot in lots]


def shrunk(draw, parts, floor):
    """The same parts with some of them merged into one, not whole, with a floor not above the one told."""
    draw.shuffle(parts)
    many = draw.randint(1, min(4, len(parts)))
    return [merged(tuple(parts[:many]), draw.randint(0, floor))] + parts[many:]


def wrong_parts(good):
    """Wrong values for an argument that wants parts, beside good ones."""
    kind = errors.InvalidParts
    return [
        *indexed(kind, None, *NO_TUPLES, good, [good]),
        *indexed(kind, 0, *((value,) for value in (*NO_OBJECTS, good.entries, LOG, [good])), (None, 5)),
        *indexed(kind, 1, *((good, value, good) for value in NO_OBJECTS)),
        *indexed(kind, 200, (good,) * 201, (good,) * 200 + (5,), (good,) * 300),
        *indexed(kind, 199, (good,) * 199 + (None, good)),
    ]


class PartTest(unittest.TestCase):
    entries = ((4, 1, DOC), (4, 3, None), (5, 2, (5, *DOC[1:])))

    def test_entries_are_kept(self):
        part = Part(self.entries)
        self.assertEqual((part.entries, len(part)), (self.entries, 3))
        self.assertEqual((Part().entries, len(Part()), Part(entries=self.entries)), ((), 0, part))
        self.assertTrue(Part() and part)

    def test_each_bound_just_at_it(self):
        entries = tuple((key, stamp, None) for key in (1, 2, 999) for stamp in range(1, 201))
        self.assertEqual(len(Part(entries)), 600)
        self.assertEqual(len(Part(((999, 200, (999, 9999, ("a", "b", "c", "d"), "a" * 200, "~" * 200)),))), 1)

    def test_equal_exactly_if_the_entries_are(self):
        part = Part(self.entries)
        self.assertTrue(part == Part(self.entries) and not part != Part(self.entries))
        for entries in ((), self.entries[:2], ((4, 1, OTHER), *self.entries[1:])):
            self.assertTrue(part != Part(entries) and not part == Part(entries))
        for value in (*NO_OBJECTS, self.entries, LOG):
            self.assertTrue(part != value and not part == value)

    def test_wrong_entries(self):
        kind = errors.InvalidEntries
        first = self.entries[0]
        wrongs = [
            *indexed(kind, None, *NO_TUPLES, [first]),
            *indexed(kind, 0, *((value,) for value in NO_ENTRIES), (None, 5)),
            *indexed(kind, 1, *((first, value) for value in NO_ENTRIES)),
            *indexed(kind, 1, (first, first), (first, (4, 1, None)), ((4, 2, None), first), (first, (3, 2, None), first)),
            *indexed(kind, 2, (first, (4, 2, None), (4, 2, DOC)), (first, (5, 1, None), (4, 200, None))),
        ]
        check_calls(self, Part, ("entries", self.entries, wrongs))


class PartOfTest(unittest.TestCase):
    def test_entries_of_all_kinds(self):
        changes = (("put", DOC), ("put", (9, *DOC[1:])), ("policy", ()), ("label", 4, ()), ("gone", 9), ("put", (9, *DOC[1:])))
        expected = ((4, 1, DOC), (4, 4, (4, 20, (), *DOC[3:])), (9, 2, (9, *DOC[1:])), (9, 5, None), (9, 6, (9, *DOC[1:])))
        self.assertEqual(part_of(Log(changes), 1, 6).entries, expected)
        self.assertEqual(part_of(Log(), 1, 0), Part())
        self.assertEqual(part_of(Log(changes), 7, 6), Part())
        self.assertEqual(part_of(last=4, first=4, log=Log(changes)).entries, expected[1:2])
        self.assertEqual(part_of(Log(changes), 3, 3), Part())

    def test_parts_of_consecutive_numbers(self):
        draw = random.Random(29)
        for _ in range(40):
            changes = drawn_changes(draw, draw.randint(0, 40), 6, drawn_texts)
            log, entries = Log(changes), plain_entries(changes)
            self.assertEqual(part_of(log, 1, len(log)).entries, entries)
            marks = sorted(draw.choices(range(len(log) + 1), k=draw.randint(0, 5)))
            parts = [part_of(log, first + 1, last) for first, last in zip([0, *marks], [*marks, len(log)])]
            for first, last, part in zip([0, *marks], [*marks, len(log)], parts):
                self.assertEqual(part.entries, tuple(entry for entry in entries if first < entry[1] <= last))
            draw.shuffle(parts)
            added = parts[0]
            for part in parts[1:]:
                added = added + part if draw.random() < 0.5 else part + added
            self.assertEqual(added, part_of(log, 1, len(log)))
            self.assertEqual(merged(tuple(parts), 0), added)

    def test_two_hundred_changes(self):
        changes = drawn_changes(random.Random(30), 200, 40, drawn_texts)
        log = Log(changes)
        parts = tuple(part_of(log, number, number) for number in range(1, 201))
        self.assertEqual(merged(parts, 0).entries, plain_entries(changes))
        self.assertEqual(merged(parts[::-1], 0), part_of(log, 1, 200))
        self.assertEqual(merged(parts, 150, whole=True).entries, plain_merged(plain_entries(changes), 150, True))

    def test_wrong(self):
        log = ("log", LOG, given(errors.NotALog, *NO_OBJECTS, LOG.changes))
        check_calls(self, part_of, log, ("first", 6, given(errors.InvalidNumber, *NO_NUMBERS, 0, 7)),
                    ("last", 5, given(errors.InvalidNumber, *NO_NUMBERS, 6, 4)))
        check_calls(self, part_of, log, ("first", 1, []), ("last", 0, given(errors.InvalidNumber, *NO_NUMBERS, 6)))
        check_calls(self, part_of, log, ("first", 3, []), ("last", 2, given(errors.InvalidNumber, 1, 0, 6)))
        self.assertEqual(raised(part_of, Log(), 2, 1).given, 2)
        self.assertEqual(raised(part_of, Log(), 1, 1).given, 1)
        check_calls(self, plain_part, log, FLOOR)


class MergedTest(unittest.TestCase):
    entries = ((4, 1, DOC), (4, 3, None), (4, 5, OTHER), (4, 8, None), (7, 2, None))

    def test_floors(self):
        part = Part(self.entries)
        kept = {0: (1, 3, 5, 8), 1: (1, 3, 5, 8), 2: (1, 3, 5, 8), 3: (3, 5, 8), 4: (3, 5, 8), 5: (5, 8), 7: (5, 8), 8: (8,), 200: (8,)}
        for floor, stamps in kept.items():
            told = merged((part,), floor)
            self.assertEqual([entry[1] for entry in told.entries if entry[0] == 4], list(stamps))
            self.assertEqual(told.entries[-1], (7, 2, None))
        whole = {0: (1, 3, 5, 8), 2: (1, 3, 5, 8), 3: (5, 8), 4: (5, 8), 5: (5, 8), 8: (), 200: ()}
        for floor, stamps in whole.items():
            told = merged(parts=(part,), floor=floor, whole=True)
            self.assertEqual([entry[1] for entry in told.entries if entry[0] == 4], list(stamps))
            self.assertIs((7, 2, None) in told.entries, floor < 2)
        gone = Part(((7, 1, None), (7, 2, (7, *DOC[1:]))))
        self.assertEqual(merged((gone,), 0, whole=True), gone)
        self.assertEqual(merged((gone,), 1, whole=True).entries, gone.entries[1:])

    def test_nothing_to_merge(self):
        self.assertEqual(merged((), 0), Part())
        self.assertEqual(merged((Part(), Part()), 200, whole=True), Part())

    def test_nothing_changes(self):
        part, other = Part(self.entries), Part(((4, 2, DOC),))
        self.assertEqual(len(part + other), 6)
        merged((part, other), 200, whole=True)
        self.assertEqual((part, other), (Part(self.entries), Part(((4, 2, DOC),))))
        self.assertIsNot(merged((part,), 0), part)

    def test_a_mark_of_what_is_gone_must_stay_while_parts_are_out(self):
        old, gone = Part(((4, 1, DOC),)), Part(((4, 2, None),))
        self.assertEqual(merged((gone,), 9).entries, gone.entries)
        self.assertEqual(reading((old, merged((gone,), 9)), 9), ())
        self.assertEqual(reading((old, merged((gone,), 9, whole=True)), 9), (DOC,))

    def test_drawn_entries(self):
        draw = random.Random(31)
        for _ in range(60):
            changes = drawn_changes(draw, draw.randint(0, 30), 5)
            entries, floor = plain_entries(changes), draw.randint(0, 32)
            parts = dealt(draw, entries, draw.randint(1, 4))
            for whole in (False, True):
                together = tuple(entry for part in parts for entry in part.entries)
                self.assertEqual(merged(tuple(parts), floor, whole=whole).entries, plain_merged(together, floor, whole))
            self.assertEqual(plain_part(Log(changes), floor).entries, plain_merged(entries, floor, True))
            self.assertEqual(plain_part(floor=floor, log=Log(changes)), plain_part(Log(changes), floor))

    def compare(self, draw, changes, many, steps):
        """Merges drawn parts in a drawn tree; compares all readings on the way, and what is left at the end."""
        entries, versions = plain_entries(changes), [documents for documents, _ in replayed(changes)]
        floor = draw.randint(0, len(changes))
        parts = dealt(draw, entries, many)
        for _ in range(steps):
            asked = range(floor, len(changes) + 1)
            for version in asked if len(asked) < 40 else draw.sample(asked, 10):
                self.assertEqual(reading(tuple(parts), version), versions[version])
            parts = shrunk(draw, parts, floor)
        self.assertEqual(reading(version=floor, parts=tuple(parts)), versions[floor])
        self.assertEqual(merged(tuple(parts), floor, whole=True).entries, plain_merged(entries, floor, True))
        self.assertEqual(merged(tuple(parts), floor, whole=True), plain_part(Log(changes), floor))

    def test_drawn_trees(self):
        draw = random.Random(32)
        for _ in range(60):
            self.compare(draw, drawn_changes(draw, draw.randint(0, 30), 5), draw.randint(1, 8), draw.randint(0, 8))

    def test_two_hundred_parts_and_changes(self):
        draw = random.Random(33)
        self.compare(draw, drawn_changes(draw, 200, 30, drawn_texts), 200, 40)
        self.compare(draw, drawn_changes(draw, 200, 5), 20, 12)

    def test_wrong(self):
        good = Part(self.entries)
        parts = ("parts", (good,) * 200, wrong_parts(good))
        check_calls(self, merged, parts, FLOOR)
        check_calls(self, reading, parts, VERSION)
        self.assertIs(type(raised(merged, (good,), 201, whole=True)), errors.InvalidNumber)


class ReadingTest(unittest.TestCase):
    def test_each_version(self):
        draw = random.Random(34)
        for _ in range(30):
            changes = drawn_changes(draw, draw.randint(0, 30), 6)
            versions, entries = [documents for documents, _ in replayed(changes)], plain_entries(changes)
            parts = tuple(dealt(draw, entries, draw.randint(1, 5)))
            for version, documents in enumerate(versions):
                self.assertEqual(reading(parts, version), documents)
            for version in (len(changes), 200):
                self.assertEqual(reading(parts, version), versions[-1])
        self.assertEqual(reading((), 0), ())

    def test_parts_of_more_than_two_hundred_documents(self):
        documents = tuple((key, 0, (), "cat", "") for key in range(1, 1000))
        parts = (Part(tuple((key, 1, document) for key, document in enumerate(documents, 1))),)
        self.assertEqual(reading(parts, 1), documents)
        self.assertEqual(reading(parts, 0), ())
        self.assertEqual(len(term_list(parts, PLAIN, 1, "cat")), 999)


class DisagreeTest(unittest.TestCase):
    def calls(self, parts):
        return [lambda: merged(parts, 0), lambda: merged(parts, 200, whole=True), lambda: reading(parts, 0), lambda: reading(parts, 200),
                lambda: term_list(parts, PLAIN, 0, "cat"), lambda: all_terms(parts, PLAIN, 0)]

    def check(self, parts, key, stamp):
        calls = self.calls(parts)
        if len(parts) == 2:
            calls.append(lambda: parts[0] + parts[1])
        for call in calls:
            error = raised(call)
            self.assertEqual((type(error), vars(error)), (errors.Disagree, {"key": key, "stamp": stamp}))

    def test_the_least_pair(self):
        one = Part(((4, 1, DOC), (4, 9, DOC), (7, 2, None)))
        self.check((one, Part(((4, 9, None), (7, 2, (7, *DOC[1:]))))), 4, 9)
        self.check((Part(((4, 1, OTHER), (4, 9, None))), one), 4, 1)
        self.check((one, one, Part(((7, 2, (7, *DOC[1:])),))), 7, 2)
        self.check((Part(((4, 1, None),)), Part(((3, 200, None),)), one, Part(((3, 200, (3, *DOC[1:])),))), 3, 200)

    def test_parts_that_agree(self):
        one, two = Part(((4, 1, DOC), (4, 9, None))), Part(((4, 1, DOC), (4, 8, OTHER)))
        self.assertEqual((one + two).entries, ((4, 1, DOC), (4, 8, OTHER), (4, 9, None)))

    def test_drawn_ones(self):
        draw = random.Random(35)
        for _ in range(80):
            entries = plain_entries(drawn_changes(draw, 25, 5))
            parts = [list(part.entries) for part in dealt(draw, entries, 3)]
            for _ in range(draw.randint(1, 6)):
                key, stamp, thing = draw.choice(entries)
                at = draw.randrange(3)
                other = None if thing is not None and draw.random() < 0.5 else (key, 99, (), "", "")
                parts[at] = sorted([entry for entry in parts[at] if entry[:2] != (key, stamp)] + [(key, stamp, other)],
                                   key=lambda entry: entry[:2])
            things = {}
            for part in parts:
                for key, stamp, thing in part:
                    things.setdefault((key, stamp), set()).add(thing)
            wrong = [pair for pair, told in things.items() if len(told) > 1]
            if wrong:
                self.check(tuple(Part(tuple(part)) for part in parts), *min(wrong))
            else:
                reading(tuple(Part(tuple(part)) for part in parts), 25)

    def test_it_is_looked_at_last(self):
        parts = (Part(((4, 1, DOC),)), Part(((4, 1, None),)))
        self.assertIs(type(raised(merged, parts, 201)), errors.InvalidNumber)
        self.assertIs(type(raised(reading, parts, 201)), errors.InvalidNumber)
        self.assertIs(type(raised(term_list, parts, PLAIN, 1, "")), errors.InvalidTerm)
        self.assertIs(type(raised(all_terms, parts, PLAIN, 201)), errors.InvalidNumber)
        self.assertIs(type(raised(merged, (*parts, None), 0)), errors.InvalidParts)


def plain_lists(documents, rule):
    """All triples of all term lists, by a look at each place of each row."""
    lists = {}
    for key, _, _, head, body in documents:
        rows = [plain_reading(rule.parts, text) for text in (head, body)]
        for term in {term for row in rows for term in row if term is not None}:
            places = [tuple(place for place, one in enumerate(row) if one == term) for row in rows]
            lists.setdefault(term, []).append((key, *places))
    return {term: tuple(sorted(told)) for term, told in lists.items()}


class TermListTest(unittest.TestCase):
    def check(self, draw, changes, rule):
        entries, versions = plain_entries(changes), [documents for documents, _ in replayed(changes)]
        floor = draw.randint(0, len(changes))
        parts = dealt(draw, entries, draw.randint(1, 6))
        for _ in range(draw.randint(0, 3)):
            parts = shrunk(draw, parts, floor)
        version = draw.randint(floor, len(changes))
        lists = plain_lists(versions[version], rule)
        self.assertEqual(all_terms(tuple(parts), rule, version), tuple(sorted(lists)))
        self.assertEqual(all_terms(version=version, rule=rule, parts=parts[::-1] and tuple(parts[::-1])), tuple(sorted(lists)))
        for term in (*sorted(lists), "strange", "~"):
            self.assertEqual(term_list(tuple(parts), rule, version, term), lists.get(term, ()))
        self.assertEqual(term_list(term="cat", version=version, rule=rule, parts=tuple(parts)), lists.get("cat", ()))

    def test_drawn_texts(self):
        draw = random.Random(36)
        for _ in range(60):
            changes = drawn_changes(draw, draw.randint(0, 25), 6, drawn_texts)
            self.check(draw, changes, draw.choice((PLAIN, WordRule(*drawn_rule(draw)))))

    def test_two_hundred_changes(self):
        draw = random.Random(37)
        self.check(draw, drawn_changes(draw, 200, 120, drawn_texts), PLAIN)

    def test_places(self):
        parts = (Part(((4, 1, (4, 0, (), "the cat, a cat", "cats")), (7, 1, (7, 0, ("x",), "", "the the cat")))),)
        self.assertEqual(term_list(parts, PLAIN, 1, "cat"), ((4, (1, 3), (0,)), (7, (), (2,))))
        self.assertEqual(all_terms(parts, PLAIN, 1), ("cat",))
        self.assertEqual((term_list(parts, PLAIN, 1, "the"), all_terms((), PLAIN, 0)), ((), ()))

    def test_wrong(self):
        good = Part(((4, 1, DOC),))
        parts = ("parts", (good,) * 200, wrong_parts(good))
        check_calls(self, term_list, parts, RULE, VERSION, ("term", "~" * 210, given(errors.InvalidTerm, *NO_TERMS)))
        check_calls(self, all_terms, parts, RULE, VERSION)


if __name__ == "__main__":
    unittest.main()

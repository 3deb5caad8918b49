"""Kept searches: points 19, 39 and 40 and the section of kept searches."""

import random
import unittest

from plainscan import errors
from plainscan.documents import Log
from plainscan.kept import Receiver, joined, keys_behind, notes_of, true_list
from plainscan.words import WordRule
from tests.calls import NO_NUMBERS, NO_OBJECTS, NO_STRINGS, NO_TUPLES, check_calls, fresh, given, indexed, raised, told_by
from tests.test_documents import NO_KEYS, drawn_changes, plain_counts, replayed
from tests.test_questions import CAT, NO_QUESTIONS, drawn_questions, plain_holds
from tests.test_rights import NO_ASKERS
from tests.test_scans import ASKERS, LOG, NO_COUNTS, PLAIN, drawn_texts, rows_of, with_unseen
from tests.test_words import drawn_rule

TELLS = ((1, 1, "came", 4), (2, 2, "came", 7), (3, 3, "went", 7))
NO_FIRSTS = (*NO_COUNTS, 0)
NO_WORDS = (*NO_STRINGS, "", "Came", "gone", "ca", "come", "put")
NO_NOTES = (*NO_OBJECTS, (), (1, "came"), (1, "came", 4, 4), [1, "came", 4], ("came", 1, 4), ((1, "came", 4),),
            *((count, "came", 4) for count in NO_FIRSTS), *((1, word, 4) for word in NO_WORDS), *((1, "came", key) for key in NO_KEYS))
NO_TELLS = (*NO_OBJECTS, (), (1, "came", 4), (1, 1, "came"), (1, 1, "came", 4, 4), [1, 1, "came", 4], (TELLS[0],),
            *((number, 1, "came", 4) for number in NO_FIRSTS), *((1, *note) for note in NO_NOTES if type(note) is tuple and len(note) == 3))
SHARED = [("log", LOG, given(errors.NotALog, *NO_OBJECTS, LOG.changes)),
          ("rule", PLAIN, given(errors.NotAWordRule, *NO_OBJECTS, PLAIN.parts)),
          ("asker", "a", given(errors.InvalidAsker, *NO_ASKERS)),
          ("question", CAT, given(errors.InvalidQuestion, *NO_QUESTIONS))]


def plain_found(changes, rule, asker, question):
    """For each count the documents as seen for which a question holds, by a plain replay."""
    seen, counts = plain_counts(replayed(changes), asker)
    found = []
    for count in range(counts[-1] + 1):
        documents = seen[counts.index(count)]
        rows = rows_of(documents, rule)
        found.append({document[0]: document for document, row in zip(documents, rows) if plain_holds(question, row[2], row[3])})
    return found


def plain_notes(found, first, last):
    """The notes about the counts above a first one up to a last one, key by key."""
    notes = []
    for count in range(first + 1, last + 1):
        for key in range(1, 1000):
            was, there = found[count - 1].get(key), found[count].get(key)
            if was != there:
                notes.append((count, "came" if was is None else "went" if there is None else "new", key))
    return tuple(notes)


def numbered(notes):
    return tuple((at + 1, *notes[at]) for at in range(len(notes)))


class TrueListTest(unittest.TestCase):
    def compare(self, draw, changes, rule, asker):
        log, question = Log(changes), drawn_questions(draw, 1)[0]
        found = plain_found(changes, rule, asker, question)
        newest = len(found) - 1
        for first in {0, newest, draw.randint(0, newest)}:
            tells = true_list(log, rule, asker, question, first)
            self.assertEqual(tells, numbered(plain_notes(found, first, newest)))
            self.assertEqual(tells, true_list(first=first, question=question, asker=asker, rule=rule, log=log))
            # Doing what the tells up to a count say leads to the keys found at it.
            for count in range(first, newest + 1):
                told = tuple(tell for tell in tells if tell[1] <= count)
                self.assertEqual(keys_behind(tuple(sorted(found[first])), told), tuple(sorted(found[count])))
                self.assertEqual(keys_behind(tells=told, keys=tuple(sorted(found[first]))), tuple(sorted(found[count])))
        self.compare_notes(draw, log, rule, asker, question, found)

    def compare_notes(self, draw, log, rule, asker, question, found):
        newest = len(found) - 1
        for _ in range(4):
            first, last, lots = draw.randint(0, newest), draw.randint(0, newest), draw.randint(1, 4)
            whole = plain_notes(found, first, last)
            lot_notes = [notes_of(log, rule, asker, question, first, last, lots, lot) for lot in range(lots)]
            for lot, notes in enumerate(lot_notes):
                self.assertEqual(notes, tuple(note for note in whole if note[2] % lots == lot))
            if last >= first:
                self.join(draw, log, (rule, asker, question, first, last, lots), lot_notes, whole)

    def join(self, draw, log, told, lot_notes, whole):
        """Joins the notes of all lots, some of them doubled, or short beside longer ones, in a drawn order."""
        rule, asker, question, first, last, lots = told
        rows = list(lot_notes)
        for _ in range(draw.randint(0, 5)):
            lot, until = draw.randrange(lots), draw.randint(first, last)
            rows.append(notes_of(log, rule, asker, question, first, until, lots, lot))
        draw.shuffle(rows)
        self.assertEqual(joined(tuple(rows)), numbered(whole))
        self.assertEqual(joined(rows=tuple(rows[::-1])), numbered(whole))

    def test_drawn_logs(self):
        draw = random.Random(39)
        for _ in range(60):
            self.compare(draw, drawn_changes(draw, draw.choice((0, 1, 10, 40)), draw.choice((2, 8)), drawn_texts), PLAIN, draw.choice(ASKERS))

    def test_drawn_rules(self):
        draw = random.Random(40)
        for _ in range(20):
            self.compare(draw, drawn_changes(draw, 20, 8, drawn_texts), WordRule(*drawn_rule(draw)), draw.choice(ASKERS))

    def test_two_hundred_changes(self):
        draw = random.Random(41)
        for keys in (6, 120):
            self.compare(draw, drawn_changes(draw, 200, keys, drawn_texts), PLAIN, "a")

    def test_words(self):
        documents = [(4, 0, (), "cat", ""), (4, 0, (), "cat", "red"), (4, 0, (), "red", ""), (4, 1, (), "red", ""), (4, 0, ("vault",), "cat", ""),
                     (4, 9, (), "cat", "cat"), (4, 9, (), "cat", "cat"), (4, 8, (), "cat", "cat")]
        log = Log(tuple(("put", document) for document in documents) + (("put", (3, 0, (), "cat", "")), ("gone", 4), ("gone", 3)))
        told = ((1, 1, "came", 4), (2, 2, "new", 4), (3, 3, "went", 4), (4, 6, "came", 4), (5, 7, "new", 4), (6, 8, "came", 3), (7, 9, "went", 4),
                (8, 10, "went", 3))
        self.assertEqual(true_list(log, PLAIN, "", CAT, 0), told)
        self.assertEqual(true_list(log, PLAIN, "", ("not", CAT), 0), ((1, 3, "came", 4), (2, 4, "new", 4), (3, 5, "went", 4)))
        self.assertEqual(true_list(log, PLAIN, "", CAT, 10), ())

    def test_several_keys_at_one_count(self):
        log = Log(tuple(("put", (key, 0, ("pay",), "cat", "")) for key in (9, 2, 5)) + (("policy", (("pay", ("badge", "a")),)), ("policy", ())))
        self.assertEqual(true_list(log, PLAIN, "a", CAT, 0), ((1, 1, "came", 2), (2, 1, "came", 5), (3, 1, "came", 9),
                                                              (4, 2, "went", 2), (5, 2, "went", 5), (6, 2, "went", 9)))
        self.assertEqual(notes_of(log, PLAIN, "a", CAT, 0, 2, 3, 2), ((1, "came", 2), (1, "came", 5), (2, "went", 2), (2, "went", 5)))

    def test_changes_between_that_the_asker_cannot_see(self):
        draw = random.Random(42)
        for _ in range(15):
            changes, asker = drawn_changes(draw, 20, 6, drawn_texts), draw.choice(ASKERS)
            other, question = Log(with_unseen(draw, changes, asker, 20)), drawn_questions(draw, 1)[0]
            self.assertEqual(true_list(Log(changes), PLAIN, asker, question, 0), true_list(other, PLAIN, asker, question, 0))

    def test_wrong(self):
        count = given(errors.InvalidNumber, *NO_COUNTS)
        check_calls(self, true_list, *SHARED, ("first", 3, count))
        check_calls(self, notes_of, *SHARED, ("first", 3, count), ("last", 3, count), ("lots", 4, given(errors.InvalidNumber, *NO_NUMBERS, 0, 5)),
                    ("lot", 3, given(errors.InvalidLot, *NO_NUMBERS, 4)))
        check_calls(self, notes_of, *SHARED, ("first", 0, []), ("last", 0, []), ("lots", 1, []), ("lot", 0, given(errors.InvalidLot, 1, 3)))

    def test_counts_that_no_version_has(self):
        for first in (4, 201, 10 ** 59):
            self.assertEqual(told_by(true_list, LOG, PLAIN, "a", CAT, first), (errors.InvalidNumber, {"given": first}))
            for last in (0, 3, 5, 10 ** 59):
                self.assertEqual(told_by(notes_of, LOG, PLAIN, "a", CAT, first, last, 2, 0), (errors.InvalidNumber, {"given": first}))
            self.assertEqual(told_by(notes_of, LOG, PLAIN, "a", CAT, 3, first, 2, 0), (errors.InvalidNumber, {"given": first}))
            self.assertIs(type(raised(notes_of, LOG, PLAIN, "a", CAT, first, first, 2, 2)), errors.InvalidLot)
            self.assertEqual(raised(notes_of, LOG, PLAIN, "a", CAT, first, first, 5, 2).given, 5)
        self.assertEqual(told_by(true_list, LOG, PLAIN, "", CAT, 3), (errors.InvalidNumber, {"given": 3}))
        self.assertEqual(notes_of(LOG, PLAIN, "a", CAT, 3, 0, 2, 0), ())
        self.assertEqual(notes_of(LOG, PLAIN, "a", CAT, 2, 2, 2, 0), ())


class JoinedTest(unittest.TestCase):
    def test_notes_in_any_order(self):
        rows = (((9, "went", 1), (1, "came", 999), (1, "new", 3)), (), ((1, "came", 999), (1, "came", 999), (10 ** 50, "came", 1)))
        self.assertEqual(joined(rows), ((1, 1, "new", 3), (2, 1, "came", 999), (3, 9, "went", 1), (4, 10 ** 50, "came", 1)))
        self.assertEqual((joined(()), joined(((), ()))), ((), ()))

    def test_wrong(self):
        kind, note, other = errors.InvalidNotes, (1, "came", 4), (1, "went", 4)
        wrongs = [
            *indexed(kind, None, *NO_TUPLES, [(note,)]),
            *indexed(kind, 0, note, *((value,) for value in NO_TUPLES), ([note],), (None, 5), ((note, other),), ((note, note, other, note), 5)),
            *indexed(kind, 1, *(((note,), (note, value)) for value in NO_NOTES), *(((), (value, note), 7) for value in NO_NOTES)),
            *indexed(kind, 1, ((note,), (other,)), ((note,), (note, (2, "came", 4), other)), ((note,), [note], 5), ((), (note, (1, "new", 4)))),
            *indexed(kind, 2, ((note,), ((1, "came", 5), (2, "went", 4)), (other,)), ((note,), (note,), None)),
        ]
        check_calls(self, joined, ("rows", ((note, (1, "went", 5), (2, "went", 4)), (note,)), wrongs))


class KeysTest(unittest.TestCase):
    def test_keys(self):
        self.assertEqual(keys_behind((), ()), ())
        self.assertEqual(keys_behind((4, 7), ()), (4, 7))
        self.assertEqual(keys_behind((7, 8), ((1, 1, "came", 4), (2, 1, "went", 8), (3, 2, "new", 7), (4, 3, "went", 7), (5, 4, "came", 7))), (4, 7))
        self.assertEqual(keys_behind((), TELLS), (4,))


def all_of(receiver):
    return receiver.told, receiver.waiting


def made():
    receiver = Receiver()
    for tell in (TELLS[0], TELLS[2], (9, 9, "new", 9)):
        receiver.take(tell)
    return receiver


class ReceiverTest(unittest.TestCase):
    def test_a_new_receiver(self):
        receiver = Receiver()
        self.assertEqual(all_of(receiver), ((), ()))
        self.assertTrue(receiver and receiver == receiver and receiver != Receiver() and not receiver == Receiver())
        for value in NO_OBJECTS:
            self.assertTrue(receiver != value and not receiver == value)

    def test_early_ones_wait(self):
        receiver = made()
        self.assertEqual(all_of(receiver), (TELLS[:1], (TELLS[2], (9, 9, "new", 9))))
        self.assertEqual(receiver.take(TELLS[0]), ())
        self.assertEqual(receiver.take(TELLS[2]), ())
        self.assertEqual(receiver.take(TELLS[1]), TELLS[1:])
        self.assertEqual(all_of(receiver), (TELLS, ((9, 9, "new", 9),)))

    def test_drawn_ways(self):
        draw = random.Random(43)
        for _ in range(80):
            changes = drawn_changes(draw, 40, 5, drawn_texts)
            tells = true_list(Log(changes), PLAIN, "a", drawn_questions(draw, 1)[0], 0)
            # Two receivers by turns; some tells are lost at first, some doubled, and they overtake one another.
            pairs = [(Receiver(), []) for _ in range(2)]
            ways = [(at, tell) for at in (0, 1) for tell in tells for _ in range(draw.choice((0, 1, 1, 2)))]
            draw.shuffle(ways)
            for at, tell in ways + [(at, tell) for at in (0, 1) for tell in draw.sample(tells, len(tells))]:
                receiver, taken = pairs[at]
                before = receiver.told
                now = receiver.take(tell)
                taken.append(tell)
                self.assertEqual(before + now, receiver.told)
                self.check(receiver, tells, taken)
                if draw.random() < 0.2:
                    self.clash(draw, receiver, taken)
            for receiver, _ in pairs:
                self.assertEqual(all_of(receiver), (tells, ()))

    def check(self, receiver, tells, taken):
        """What has been told is all up to the first that has not come; what has come behind it waits."""
        many = 0
        while many < len(tells) and tells[many] in taken:
            many += 1
        self.assertEqual(receiver.told, tells[:many])
        self.assertEqual(receiver.waiting, tuple(tell for tell in tells[many:] if tell in taken))

    def clash(self, draw, receiver, taken):
        number, count, word, key = draw.choice(taken)
        others = ((number, count + 1, word, key), (number, count, "went" if word != "went" else "new", key), (number, count, word, key % 999 + 1))
        for other in others:
            before = all_of(receiver)
            self.assertEqual(told_by(receiver.take, other), (errors.Clash, {"number": number}))
            self.assertEqual(all_of(receiver), before)

    def test_wrong(self):
        wrongs = given(errors.InvalidTell, *NO_TELLS)
        for other in ((1, 1, "came", 5), (3, 3, "new", 7), (9, 8, "new", 9)):
            wrongs.append((other, errors.Clash, {"number": other[0]}))
        check_calls(self, fresh(made, "take", all_of), ("tell", TELLS[1], wrongs))
        check_calls(self, fresh(made, "take", all_of), ("tell", (10 ** 59, 10 ** 59, "came", 999), []))


if __name__ == "__main__":
    unittest.main()

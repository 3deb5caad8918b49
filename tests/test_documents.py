"""Documents, changes and logs: points 13 to 18 and the section of the documents."""

import random
import unittest

from plainscan import errors
from plainscan.documents import Log, is_change, is_document
from plainscan.rights import Policy, is_guard
from tests.calls import NO_NUMBERS, NO_OBJECTS, NO_STRINGS, NO_TUPLES, check_calls, given, indexed, raised
from tests.test_rights import ASKERS, NO_ASKERS, NO_LABELS, drawn_guard, plain_sees

A = ("badge", "a")
DOC = (4, 20, ("pay",), "Dogs", "A dog")
SIX = tuple((label, A) for label in "abcdef")
NO_KEYS = (*NO_NUMBERS, 0, 1000)
NO_TEXTS = (*NO_STRINGS, "a" * 201, "50%", "a\n")
NO_DOCUMENTS = (
    *NO_OBJECTS, list(DOC), DOC[:4], DOC + (1,), (DOC,),
    *((key, *DOC[1:]) for key in NO_KEYS),
    *((4, day, *DOC[2:]) for day in (*NO_NUMBERS, 10000)),
    *((4, 20, labels, "", "") for labels in NO_LABELS),
    *((4, 20, (), head, "") for head in NO_TEXTS),
    *((4, 20, (), "", body) for body in NO_TEXTS),
)
NO_CHANGES = (
    *NO_OBJECTS, ["gone", 4], ("gone",), ("gone", 4, 4), ("put", DOC, DOC), ("put",), (b"gone", 4), ("take", 4), (None, 4),
    ("label", 4), ("label", 4, ("pay",), 1), ("policy",), ("policy", SIX, SIX), (("gone",), 4), (["put"], DOC), ("", DOC),
    ("Gone", 4), ("take", ()), ("take", SIX), ("", ()), (None, ()), ("Policy", SIX), ("gone", DOC), ("put", 4), ("label", DOC, ()), ("gone", 4, ()), ("label", 4, SIX),
    *(("put", document) for document in NO_DOCUMENTS),
    *(("gone", key) for key in NO_KEYS),
    *(("label", key, ()) for key in NO_KEYS),
    *(("label", 4, labels) for labels in NO_LABELS),
    *(("policy", rights) for rights in (*NO_TUPLES, SIX + (("g", A),), (("b", A), ("a", A)), (("a", A),) * 2,
                                        (("a",),), (["a", A],), (("", A),), (("a", ("badge", "g")),), list(SIX), (A,))),
)


def drawn_rights(draw):
    rights = []
    for label in ("pay", "plan", "sea"):
        guard = drawn_guard(draw, 3)
        if draw.random() < 0.7 and is_guard(guard):
            rights.append((label, guard))
    return tuple(rights)


def drawn_labels(draw):
    return tuple(label for label in ("other", "pay", "plan") if draw.random() < 0.25)


def drawn_changes(draw, many, keys=6, texts=lambda draw: (draw.choice("xy"), draw.choice("xyz"))):
    """A drawn row of changes of all four kinds, each of which fits; the texts of a head and a body are drawn, too."""
    changes, there = [], set()
    while len(changes) < many:
        kind = draw.choice(("put", "put", "gone", "label", "policy"))
        key = draw.randint(1, keys)
        if kind == "put":
            there.add(key)
            changes.append((kind, (key, draw.randint(0, 2), drawn_labels(draw), *texts(draw))))
        elif kind == "policy":
            changes.append((kind, drawn_rights(draw)))
        elif key in there and kind == "gone":
            there.discard(key)
            changes.append((kind, key))
        elif key in there:
            changes.append((kind, key, drawn_labels(draw)))
    return tuple(changes)


def replayed(changes):
    """The pairs of the documents and the rights at each version: each version from nothing."""
    versions = []
    for many in range(len(changes) + 1):
        documents, rights = {}, ()
        for kind, told, *more in changes[:many]:
            if kind == "put":
                documents[told[0]] = told
            elif kind == "gone":
                del documents[told]
            elif kind == "label":
                documents[told] = documents[told][:2] + (more[0],) + documents[told][3:]
            else:
                rights = told
        versions.append((tuple(documents[key] for key in sorted(documents)), rights))
    return versions


def plain_counts(versions, asker):
    """The pair of the seen set at each version, and of the own count at each, by pairs of documents and rights."""
    seen = [tuple((key, day, head, body) for key, day, labels, head, body in documents
                  if plain_sees(rights, labels, asker)) for documents, rights in versions]
    counts = [0]
    for version in range(1, len(seen)):
        counts.append(counts[-1] + (seen[version] != seen[version - 1]))
    return seen, counts


class KindsTest(unittest.TestCase):
    def test_documents(self):
        for document in (DOC, (1, 0, (), "", ""), (999, 9999, ("a", "b", "c", "d"), "a" * 200, "~" * 200)):
            self.assertIs(is_document(document), True)
            self.assertIs(is_document(value=document), True)
        for value in NO_DOCUMENTS:
            self.assertIs(is_document(value), False, value)

    def test_changes(self):
        for change in (("put", DOC), ("gone", 1), ("gone", 999), ("label", 4, ()), ("label", 999, ("a", "b", "c", "d")),
                       ("policy", ()), ("policy", SIX)):
            self.assertIs(is_change(change), True)
            self.assertIs(is_change(value=change), True)
        for value in NO_CHANGES:
            self.assertIs(is_change(value), False, value)


class LogTest(unittest.TestCase):
    changes = (("put", DOC), ("policy", (("pay", A),)), ("gone", 4))

    def test_the_empty_log(self):
        log = Log()
        self.assertEqual((log.changes, len(log), log.documents(0), log.policy(0)), ((), 0, (), Policy(())))
        self.assertEqual((log.seen(0, "a"), log.count(0, "a"), log.versions(0, "a"), log.fence("a")), ((), 0, (0, 0), 0))
        self.assertTrue(log)
        self.assertEqual(log, Log(changes=()))

    def test_equal_exactly_if_the_changes_are(self):
        log = Log(self.changes)
        self.assertTrue(log == Log(self.changes) and not log != Log(self.changes))
        log.seen(3, "a")
        self.assertTrue(log == Log(self.changes))
        self.assertTrue(log != Log(self.changes[:2]) and not log == Log(self.changes[:2]))
        for value in (*NO_OBJECTS, self.changes, Policy(())):
            self.assertTrue(log != value and not log == value)

    def test_wrong_changes(self):
        kind = errors.InvalidChanges
        put = ("put", DOC)
        wrongs = [
            *indexed(kind, None, *NO_TUPLES, [put]),
            *indexed(kind, 0, (("gone", 4),), (("label", 4, ()),), (["gone", 4], 5), (7,)),
            *indexed(kind, 1, (put, ("gone", 5)), (put, ("label", 5, ()), None), (("policy", ()), ("gone", 4))),
            *indexed(kind, 2, (put, ("gone", 4), ("gone", 4)), (put, ("gone", 4), ("label", 4, ())), (put, put, 3, put)),
            *indexed(kind, 200, (put,) * 201, (put,) * 200 + (7,), (put,) * 300),
            *indexed(kind, 199, (put,) * 199 + (("gone", 5), put)),
        ]
        for change in NO_CHANGES:
            wrongs.extend(indexed(kind, 1, (put, change, put)))
        check_calls(self, Log, ("changes", (put,) * 200, wrongs))

    def test_then(self):
        log = Log()
        for at, change in enumerate(self.changes):
            longer = log.then(change)
            self.assertEqual(len(log), at)
            self.assertEqual(longer, Log(self.changes[:at + 1]))
            self.assertEqual(longer, log.then(change=change))
            log = longer

    def test_wrong_then(self):
        log = Log(self.changes)
        check_calls(self, log.then, ("change", ("put", DOC), [
            *given(errors.InvalidChange, *NO_CHANGES),
            (("gone", 4), errors.UnknownKey, {"given": 4}), (("label", 5, ()), errors.UnknownKey, {"given": 5})]))
        full = Log((("put", DOC),) * 200)
        for change, kind, value in ((("put", DOC), errors.TooMany, 201), (("gone", 4), errors.TooMany, 201),
                                    (("gone", 5), errors.UnknownKey, 5)):
            error = raised(full.then, change)
            self.assertEqual((type(error), error.given), (kind, value))
        error = raised(full.then, ("gone", 0))
        self.assertEqual((type(error), error.given), (errors.InvalidChange, ("gone", 0)))
        self.assertEqual(full, Log((("put", DOC),) * 200))
        self.assertEqual(len(Log((("put", DOC),) * 199).then(("gone", 4))), 200)

    def test_wrong_versions_and_askers(self):
        log = Log(self.changes)
        version = ("version", 3, given(errors.InvalidNumber, *NO_NUMBERS, 4))
        asker = ("asker", "a", given(errors.InvalidAsker, *NO_ASKERS))
        check_calls(self, log.documents, version)
        check_calls(self, log.policy, version)
        check_calls(self, log.seen, version, asker)
        check_calls(self, log.count, version, asker)
        check_calls(self, log.fence, asker)

    def test_wrong_counts(self):
        log = Log(self.changes)
        no_numbers = given(errors.InvalidNumber, *(value for value in NO_NUMBERS if value != 10 ** 59))
        check_calls(self, log.versions, ("count", 2, no_numbers), ("asker", "a", given(errors.InvalidAsker, *NO_ASKERS)))
        for count in (3, 10 ** 59):
            error = raised(log.versions, count, "a")
            self.assertEqual((type(error), error.given), (errors.InvalidNumber, count))
            # That no version has a count is looked at last.
            self.assertIs(type(raised(log.versions, count, "ba")), errors.InvalidAsker)
        self.assertIs(type(raised(log.versions, 1, "b")), errors.InvalidNumber)


class SeenTest(unittest.TestCase):
    def test_documents_as_seen(self):
        log = Log((("put", DOC), ("policy", (("pay", A),)), ("put", (2, 9, (), "", ""))))
        self.assertEqual(log.seen(1, "a"), ())
        self.assertEqual(log.seen(2, "ab"), ((4, 20, "Dogs", "A dog"),))
        self.assertEqual(log.seen(3, "a"), ((2, 9, "", ""), (4, 20, "Dogs", "A dog")))
        self.assertEqual(log.seen(version=3, asker="b"), ((2, 9, "", ""),))

    def test_a_change_that_leaves_the_seen_set_is_not_counted(self):
        log = Log((("put", DOC), ("put", DOC), ("policy", ()), ("label", 4, ()), ("label", 4, ()), ("put", (4, 20, (), "", "")),
                   ("policy", SIX)))
        self.assertEqual([log.count(version, "") for version in range(8)], [0, 0, 0, 0, 1, 1, 2, 2])
        self.assertEqual([log.versions(count, "") for count in range(3)], [(0, 3), (4, 5), (6, 7)])

    def test_what_is_replaced_is_not_taken(self):
        first, second, hidden = (4, 1, (), "", ""), (4, 2, (), "", ""), (4, 2, ("x",), "", "")
        self.assertEqual(Log((("put", first), ("put", second))).fence(""), 0)
        self.assertEqual(Log((("put", first), ("put", hidden))).fence(""), 2)
        self.assertEqual(Log((("put", first), ("put", hidden), ("put", second))).fence(""), 2)
        self.assertEqual(Log((("put", first), ("gone", 4), ("put", first), ("gone", 4))).fence(""), 4)

    def test_a_seen_set_that_comes_back_has_another_count(self):
        log = Log((("put", DOC), ("label", 4, ()), ("label", 4, ("pay",)), ("label", 4, ())))
        self.assertEqual([log.count(version, "c") for version in range(5)], [0, 0, 1, 2, 3])
        self.assertEqual(log.seen(2, "c"), log.seen(4, "c"))
        self.assertEqual(log.fence("c"), 2)


class ReplayTest(unittest.TestCase):
    def compare(self, log, changes, askers):
        versions = replayed(changes)
        self.assertEqual(len(log), len(changes))
        for version, (documents, rights) in enumerate(versions):
            self.assertEqual(log.documents(version), documents)
            self.assertEqual(log.policy(version), Policy(rights))
            self.assertEqual(log.policy(version).rights, rights)
        for asker in askers:
            self.compare_counts(log, versions, asker)

    def compare_counts(self, log, versions, asker):
        seen, counts = plain_counts(versions, asker)
        fence = 0
        for version in range(1, len(seen)):
            if {one[0] for one in seen[version - 1]} - {one[0] for one in seen[version]}:
                fence = counts[version]
        self.assertEqual([log.seen(version, asker) for version in range(len(seen))], seen)
        self.assertEqual([log.count(version, asker) for version in range(len(seen))], counts)
        for count in range(counts[-1] + 1):
            with_count = [version for version in range(len(seen)) if counts[version] == count]
            self.assertEqual(log.versions(count, asker), (with_count[0], with_count[-1]))
            self.assertEqual(len(with_count), with_count[-1] - with_count[0] + 1)
        self.assertEqual(raised(log.versions, counts[-1] + 1, asker).given, counts[-1] + 1)
        self.assertEqual(log.fence(asker), fence)
        self.assertEqual(log.fence(asker=asker), fence)

    def test_drawn_logs(self):
        draw = random.Random(14)
        for _ in range(60):
            changes = drawn_changes(draw, draw.randint(0, 40))
            self.compare(Log(changes), changes, ("", "a", "b", "ab", "cd"))

    def test_drawn_logs_made_change_by_change(self):
        draw = random.Random(15)
        for _ in range(15):
            changes = drawn_changes(draw, 30)
            log = Log()
            for at, change in enumerate(changes):
                log.seen(at, "a")
                log = log.then(change)
            self.assertEqual(log, Log(changes))
            self.compare(log, changes, ("", "a", "b"))

    def test_all_askers(self):
        changes = drawn_changes(random.Random(16), 40)
        self.compare(Log(changes), changes, ASKERS)

    def test_a_log_of_two_hundred_changes(self):
        changes = drawn_changes(random.Random(17), 200, 150)
        self.compare(Log(changes), changes, ("", "ab"))


if __name__ == "__main__":
    unittest.main()

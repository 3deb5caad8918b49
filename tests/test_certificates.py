"""Certificates: points 2 and 45 and the section of the certificates."""

import random
import unittest

from plainscan import errors
from plainscan.certificates import (
    certify_fewest, certify_finds, certify_page, certify_plain, certify_ranked, certify_read, certify_scanned, certify_served,
    certify_settled, certify_shown, certify_shows, certify_trace, certify_true)
from plainscan.checker import accepts
from plainscan.documents import Log
from plainscan.fleets import Fleet
from plainscan.questionlikes import row_states
from plainscan.ranking import Rank
from plainscan.rights import Policy
from plainscan.windows import least_window
from plainscan.words import WordRule
from tests.calls import NO_NUMBERS, NO_OBJECTS, check_calls, given, raised, told_by
from tests.claims import MAKERS, made_claims, plainly_accepted
from tests.test_fleets import NO_ASKER, NO_FLEET, NO_LEAST, NO_LOG, drawn_fleet
from tests.test_hints import MANY
from tests.test_kept import SHARED
from tests.test_looks import LISTS, drawn_depths, drawn_lists, wrong_depths, wrong_lists
from tests.test_pages import NO_PLACES
from tests.test_parts import FLOOR
from tests.test_questionlikes import ONE_MORE
from tests.test_questions import CAT, NO_QUESTIONS, NO_ROWS, drawn_questions, drawn_row, plain_holds
from tests.test_scans import ASKERS, LOG, NO_COUNTS, PLAIN, RANK, TRACED, wrongs_of
from tests.test_documents import drawn_changes


class CertificatesTest(unittest.TestCase):
    def check(self, told, claim=None):
        """Checks that a certificate is accepted and is so, and that it makes a claim, if one is told."""
        self.assertEqual((type(told), len(told)), (tuple, 2))
        self.assertIs(accepts(*told), True, told)
        self.assertTrue(plainly_accepted(*told), told)
        if claim is not None:
            self.assertEqual(repr(told[0]), repr(claim))
        return told

    def certified(self, claim):
        """The certificate about what a claim is about."""
        kind, *told = claim
        if kind in ("read alike", "read unlike"):
            return certify_read(*(WordRule(*parts) for parts in told))
        if kind in ("finds no more", "finds more"):
            return certify_finds(*told)
        if kind in ("ranked alike", "ranked unlike"):
            return certify_ranked(*(Rank(*parts) for parts in told))
        if kind in ("no trace", "trace"):
            return certify_trace(Rank(*told[0]))
        if kind in ("shows no more", "shows more"):
            return certify_shows(*(Policy(rights) for rights in told))
        if kind == "plain part":
            return certify_plain(Log(told[0]), told[1])
        if kind == "fewest":
            return certify_fewest(*told[:2])
        if kind == "true list":
            return certify_true(WordRule(*told[0]), Log(told[1]), *told[2:5])
        if kind == "scanned":
            rule, changes, count, asker, question, rank, many, _ = told
            return certify_scanned(WordRule(*rule), Log(changes), count, asker, question, Rank(*rank), many)
        rule, changes, place, asker, question, rank, many, _ = told
        return certify_page(Log(changes), WordRule(*rule), place, asker, question, Rank(*rank), many)

    def test_the_claim_that_is_so(self):
        draw = random.Random(45)
        for at in (0, 1, 2, 3, 4, 5, 7, 9):
            for claim, _ in made_claims(draw, MAKERS[at], 60):
                self.check(self.certified(claim), claim)

    def test_papers(self):
        claim, paper = certify_finds(CAT, CAT)
        self.assertEqual((claim[0], paper), ("finds no more", row_states(CAT, CAT)))
        one, two = Rank((0, 1), (0, 2), (3, 1), 1, "key"), Rank((0, 2, 2), (0, 4), (3, 1, 1), 2, "key")
        self.check(certify_ranked(one, two), ("ranked alike", one.parts, two.parts))
        self.assertEqual(certify_ranked(one, two)[1], (2, 1))
        for parts, paper in (((*two.parts[:4], "old", "seen"), "ties"), ((*two.parts[:5], "all"), "counted")):
            self.assertEqual(self.check(certify_ranked(one, Rank(*parts)))[1], paper)
        self.check(certify_read(PLAIN, PLAIN), ("read alike", PLAIN.parts, PLAIN.parts))

    def test_depths(self):
        draw = random.Random(46)
        found = []
        for _ in range(150):
            lists, many = drawn_lists(draw, draw.choice((3, 8))), draw.choice((1, 2, 40))
            depths = drawn_depths(draw, lists)
            told = certify_settled(lists, depths, many)
            found.append(told is None)
            if told is not None:
                self.assertEqual(self.check(told)[1], depths)
                self.assertEqual(told, certify_settled(many=many, depths=depths, lists=lists))
            if len(found) % 5 == 0:
                self.check(certify_fewest(lists, many))
        self.assertTrue(20 < found.count(True) < 130)

    def test_fleets(self):
        draw = random.Random(47)
        kinds = []
        for _ in range(150):
            changes, asker, least = drawn_changes(draw, draw.choice((0, 5, 20))), draw.choice(ASKERS), draw.choice((0, 0, 1, 2))
            fleet, log = drawn_fleet(draw, len(changes), draw.choice((1, 1, 2)), None, 60), Log(changes)
            claim, _ = self.check(certify_served(fleet, log, asker, least))
            kinds.append(claim[0])
            self.assertEqual(claim[1:6], (fleet.lots, fleet.copies, changes, asker, least))
            self.assertEqual(certify_served(least=least, asker=asker, log=log, fleet=fleet)[0], claim)
        self.assertTrue(30 < kinds.count("served") < 130)
        self.check(certify_served(Fleet(4, 1), LOG, "", 10 ** 50), ("unserved", 4, (), LOG.changes, "", 10 ** 50))

    def test_windows(self):
        draw = random.Random(48)
        for question in drawn_questions(draw, 120):
            head, body = drawn_row(draw), drawn_row(draw)
            told = certify_shown(question, head, body)
            if not plain_holds(question, head, body):
                self.assertIsNone(told)
            else:
                self.check(told, ("shown", question, head, body, least_window(question, head, body)))

    def test_wrong_rules_and_ranks(self):
        rules, ranks, policies = [given(kind, *NO_OBJECTS) for kind in (errors.NotAWordRule, errors.NotARank, errors.NotAPolicy)]
        check_calls(self, certify_read, ("rule", PLAIN, rules), ("other", PLAIN, rules))
        check_calls(self, certify_ranked, ("rank", RANK, ranks), ("other", TRACED, ranks))
        check_calls(self, certify_trace, ("rank", RANK, ranks))
        check_calls(self, certify_shows, ("policy", Policy(()), policies), ("other", Policy(()), policies))

    def test_wrong_questions(self):
        questions = given(errors.InvalidQuestion, *NO_QUESTIONS)
        check_calls(self, certify_finds, ("question", CAT, questions), ("other", CAT, questions))
        for pair in (ONE_MORE, ONE_MORE[::-1]):
            self.assertEqual(told_by(certify_finds, *pair), (errors.TooLarge, {"given": 2000}))
        rows = given(errors.InvalidRow, *NO_ROWS)
        check_calls(self, certify_shown, ("question", CAT, questions), ("head", ("cat",) * 400, rows), ("body", (), rows))

    def test_wrong_scans(self):
        log, rule, *others = wrongs_of("count", 3, NO_COUNTS)
        check_calls(self, certify_scanned, rule, log, *others)
        check_calls(self, certify_page, log, rule, ("place", (3, 0), given(errors.InvalidPlace, *NO_PLACES)), *others[1:])
        for count in (4, 10 ** 59):
            for call in (lambda rank, many: certify_scanned(PLAIN, LOG, count, "a", CAT, rank, many),
                         lambda rank, many: certify_page(LOG, PLAIN, (count, 0), "a", CAT, rank, many)):
                self.assertEqual(told_by(call, RANK, 1), (errors.InvalidNumber, {"given": count}))
                self.assertEqual(told_by(call, TRACED, 1), (errors.Trace, {}))
                self.assertEqual(told_by(call, TRACED, 0), (errors.InvalidNumber, {"given": 0}))
        self.assertIs(type(raised(certify_scanned, LOG, PLAIN, 1, "a", CAT, RANK, 1)), errors.NotAWordRule)

    def test_wrong_lists(self):
        lists = ("lists", LISTS, wrong_lists())
        check_calls(self, certify_settled, lists, ("depths", (3, 3), wrong_depths()), MANY)
        check_calls(self, certify_fewest, lists, MANY)
        nine = tuple((1, key) for key in range(1, 10))
        self.assertEqual(told_by(certify_fewest, (nine, ()), 1), (errors.TooLarge, {"given": 9}))
        self.assertEqual(told_by(certify_fewest, (nine, ()), 41), (errors.InvalidNumber, {"given": 41}))

    def test_wrong_logs(self):
        check_calls(self, certify_plain, NO_LOG, FLOOR)
        check_calls(self, certify_served, NO_FLEET, NO_LOG, NO_ASKER, NO_LEAST)
        log, rule, asker, question = SHARED
        check_calls(self, certify_true, rule, log, asker, question, ("first", 3, given(errors.InvalidNumber, *NO_COUNTS)))
        for first in (4, 10 ** 59):
            self.assertEqual(told_by(certify_true, PLAIN, LOG, "a", CAT, first), (errors.InvalidNumber, {"given": first}))
        self.assertEqual(len(NO_NUMBERS), len(NO_COUNTS) + 1)


if __name__ == "__main__":
    unittest.main()

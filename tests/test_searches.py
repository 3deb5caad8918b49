"""Searches: points 19, 25, 28 and 31 and the section of the searches."""

import random
import unittest

from plainscan import errors
from plainscan.documents import Log
from plainscan.parts import Part, part_of
from plainscan.ranking import Rank
from plainscan.rights import Policy
from plainscan.scans import scan
from plainscan.searches import search
from plainscan.words import WordRule, plain_rule
from tests.calls import NO_NUMBERS, NO_OBJECTS, check_calls, given, raised
from tests.test_documents import drawn_changes, drawn_rights, replayed
from tests.test_parts import RULE, VERSION, dealt, plain_entries, shrunk, wrong_parts
from tests.test_questions import CAT, NO_QUESTIONS, drawn_questions
from tests.test_ranking import GOOD, drawn_parts, plain_scan
from tests.test_rights import NO_ASKERS
from tests.test_scans import ASKERS, LOG, RANK, TRACED, drawn_texts, plain_rows, traceless
from tests.test_words import drawn_rule

PLAIN = plain_rule()
EVERYBODY = Policy(())


def part_with(documents):
    return Part(tuple((document[0], 1, document) for document in documents))


class SearchTest(unittest.TestCase):
    def compare(self, draw, changes, rule, asked):
        """Compares searches of drawn parts, merged in between, with plain scans of a plain replay."""
        versions = replayed(changes)
        floor = draw.randint(0, len(changes))
        parts = dealt(draw, plain_entries(changes), draw.randint(1, 5))
        for question in drawn_questions(draw, asked):
            if draw.random() < 0.3:
                parts = shrunk(draw, parts, floor)
            version, asker = draw.randint(floor, len(changes)), draw.choice(ASKERS)
            documents, rights = versions[version]
            seen, further = plain_rows(documents, rights, rule, asker)
            told, many = traceless(drawn_parts(draw)), draw.choice((1, 2, 5, 40))
            expected = plain_scan(seen, further, question, told, many)
            self.assertEqual(search(tuple(parts), Policy(rights), rule, version, asker, question, Rank(*told), many), expected)
            self.assertEqual(scan(Log(changes), rule, version, asker, question, Rank(*told), many), expected)
            self.assertEqual(search(many=many, rank=Rank(*told), question=question, asker=asker, version=version, rule=rule,
                                    policy=Policy(rights), parts=tuple(parts[::-1])), expected)

    def test_drawn_logs(self):
        draw = random.Random(31)
        for _ in range(60):
            self.compare(draw, drawn_changes(draw, draw.randint(0, 30), 8, drawn_texts), PLAIN, 6)

    def test_drawn_rules(self):
        draw = random.Random(32)
        for _ in range(30):
            self.compare(draw, drawn_changes(draw, 20, 8, drawn_texts), WordRule(*drawn_rule(draw)), 4)

    def test_two_hundred_changes(self):
        draw = random.Random(33)
        self.compare(draw, drawn_changes(draw, 200, 120, drawn_texts), PLAIN, 10)

    def test_another_policy_than_that_of_the_log(self):
        draw = random.Random(34)
        for question in drawn_questions(draw, 60):
            changes, rights, asker = drawn_changes(draw, 20, 8, drawn_texts), drawn_rights(draw), draw.choice(ASKERS)
            seen, _ = plain_rows(replayed(changes)[20][0], rights, PLAIN, asker)
            parts = traceless(drawn_parts(draw))
            told = search((part_of(Log(changes), 1, 20),), Policy(rights), PLAIN, 20, asker, question, Rank(*parts), 40)
            self.assertEqual(told, plain_scan(seen, (), question, parts, 40))

    def test_atoms_by_their_places(self):
        documents = ((1, 0, (), "red cat", ""), (2, 0, (), "cat red", "red the cat"), (3, 0, (), "red", "cat"),
                     (4, 0, (), "", "cat x y z u v w red"), (5, 0, (), "", "cat x y z u v red cat cat"))
        told = {("row", "any", ("red", "cat")): (1, 5), ("row", "head", ("red", "cat")): (1,), ("row", "body", ("cat", "cat")): (5,),
                ("near", "any", "red", "cat", 1): (1, 2, 5), ("near", "body", "cat", "red", 1): (5,), ("near", "body", "cat", "red", 2): (2, 5),
                ("near", "body", "red", "cat", 6): (2, 5), ("near", "any", "cat", "cat", 1): (5,), ("near", "any", "cat", "cat", 6): (5,),
                ("near", "head", "red", "red", 6): (), ("starts", "head", "c"): (1, 2), ("starts", "any", "w"): (4,),
                ("word", "head", "cat"): (1, 2), ("word", "body", "red"): (2, 4, 5), ("word", "any", "ca"): (),
                ("starts", "any", "cats"): (), ("row", "any", ("strange", "cat")): (), ("near", "any", "cat", "strange", 6): ()}
        rank = Rank((0,), (0,), (0,), 1, "key")
        for question, keys in told.items():
            worth = int(question[0] in ("row", "near"))
            rows = search((part_with(documents),), EVERYBODY, PLAIN, 1, "", question, rank, 40)
            self.assertEqual(rows, tuple((key, worth) for key in keys))
            others = search((part_with(documents),), EVERYBODY, PLAIN, 1, "", ("not", question), rank, 40)
            self.assertEqual(others, tuple((key, 0) for key in range(1, 6) if key not in keys))

    def test_more_documents_than_a_log_can_have(self):
        draw = random.Random(35)
        documents = tuple((key, draw.randint(0, 3), draw.choice(((), (), ("pay",))), *drawn_texts(draw)) for key in range(1, 1000))
        parts = tuple(part_with(documents[at::7]) for at in range(7))
        for question in drawn_questions(draw, 8):
            told = traceless(drawn_parts(draw))
            seen, _ = plain_rows(documents, (), PLAIN, "a")
            rows = search(parts, EVERYBODY, PLAIN, 200, "a", question, Rank(*told), 40)
            self.assertEqual(rows, plain_scan(seen, (), question, told, 40))

    def test_documents_that_are_not_seen_turn_nothing(self):
        draw = random.Random(36)
        for question in drawn_questions(draw, 80):
            seen = tuple((key, draw.randint(0, 3), (), *drawn_texts(draw)) for key in range(1, 20, 2))
            hidden = tuple((key, draw.randint(0, 3), ("vault",), *drawn_texts(draw)) for key in range(2, 20, 2))
            policy = Policy((("vault", ("badge", "f")),))
            rank = Rank(*traceless(drawn_parts(draw)))
            told = [search(parts, policy, PLAIN, 1, "a", question, rank, 40)
                    for parts in ((part_with(seen),), (part_with(seen), part_with(hidden)), (part_with(sorted(seen + hidden)),))]
            self.assertEqual(told[0], told[1])
            self.assertEqual(told[0], told[2])

    def test_nothing_to_read(self):
        self.assertEqual(search((), EVERYBODY, PLAIN, 0, "", ("not", CAT), RANK, 40), ())
        self.assertEqual(search((Part(), part_of(LOG, 1, 5)), EVERYBODY, PLAIN, 0, "", ("not", CAT), RANK, 40), ())

    def test_blind_ranks_may_count_all(self):
        parts = (part_of(LOG, 1, 5),)
        for told in (((0, 1), (0,), (2, 2), 1, "key", "all"), ((0,), (0, 0), (3, 1), 1, "key", "all")):
            expected = search(parts, LOG.policy(3), PLAIN, 3, "", CAT, Rank(*told[:5]), 9)
            self.assertEqual(search(parts, LOG.policy(3), PLAIN, 3, "", CAT, Rank(*told), 9), expected)

    def test_wrong(self):
        good = part_of(LOG, 1, 5)
        check_calls(self, search, ("parts", (good,) * 200, wrong_parts(good)),
                    ("policy", EVERYBODY, given(errors.NotAPolicy, *NO_OBJECTS, LOG)), RULE, VERSION,
                    ("asker", "abcdef", given(errors.InvalidAsker, *NO_ASKERS)),
                    ("question", CAT, given(errors.InvalidQuestion, *NO_QUESTIONS)),
                    ("rank", RANK, given(errors.NotARank, *NO_OBJECTS, GOOD)),
                    ("many", 40, given(errors.InvalidNumber, *NO_NUMBERS, 0, 41)))

    def test_what_comes_last(self):
        parts = (Part(((4, 9, None), (5, 3, None))), Part(((4, 9, (4, 0, (), "", "")), (5, 3, (5, 0, (), "", "")))))
        error = raised(search, parts, EVERYBODY, PLAIN, 0, "", CAT, RANK, 1)
        self.assertEqual((type(error), vars(error)), (errors.Disagree, {"key": 4, "stamp": 9}))
        error = raised(search, parts, EVERYBODY, PLAIN, 0, "", CAT, TRACED, 1)
        self.assertEqual((type(error), vars(error)), (errors.Trace, {}))
        self.assertIs(type(raised(search, parts, EVERYBODY, PLAIN, 0, "", CAT, TRACED, 0)), errors.InvalidNumber)
        self.assertIs(type(raised(search, (), EVERYBODY, PLAIN, 0, "", CAT, TRACED, 1)), errors.Trace)


if __name__ == "__main__":
    unittest.main()

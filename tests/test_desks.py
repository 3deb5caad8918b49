"""Desks: points 2, 19, 42 to 44 and 46, 47, 48 and 49 as far as desks speak of them, and the section of the desks."""

import random
import unittest

from plainscan import errors
from plainscan.desks import Desk
from plainscan.documents import Log
from plainscan.ranking import Rank
from plainscan.words import WordRule
from tests.books import Model, drawn_turn, settle, shown
from tests.calls import NO_NUMBERS, NO_OBJECTS, NO_STRINGS, check_calls, fresh, given, raised, told_by
from tests.test_documents import DOC, NO_CHANGES, NO_KEYS, SIX, drawn_changes, replayed
from tests.test_hints import MANY, NO_STARTS, NO_TERMS
from tests.test_pages import NO_PLACES
from tests.test_questions import CAT, NO_QUESTIONS, drawn_questions
from tests.test_ranking import GOOD, drawn_parts
from tests.test_rights import NO_ASKERS
from tests.test_scans import ASKERS, LOG, NO_COUNTS, PLAIN, RANK, TRACED, drawn_text, drawn_texts, traceless, with_unseen
from tests.test_words import drawn_rule

BLIND = Rank((0, 1), (0, 2), (2, 2), 1, "key", "all")


def made(searches=1):
    """A desk of two lots and three houses, one of which is lost, with copies, marks and kept searches."""
    desk = Desk(PLAIN, lots=2, houses=3, cache=2)
    for change in LOG.changes:
        getattr(desk, change[0])(*change[1:])
    for house, lot in ((0, 0), (0, 1), (1, 1)):
        desk.place(house, lot)
        desk.ship(house, lot, 2)
        desk.ship(house, lot, 5)
    desk.clean(0, 0, 1)
    desk.lose(2)
    for asker in ("a", ""):
        desk.ask(asker, CAT, RANK, 5)
    for _ in range(searches):
        desk.watch("a", CAT)
    return desk


def all_of(desk):
    """All that a desk shows; what the numbers of searches and their counts are, too."""
    held = [desk.tells(number) for number, _, _ in desk.searches]
    return (*shown(desk, 2, 3), held, len(desk))


def check_desk(test, make, name, *arguments):
    check_calls(test, fresh(make, name, all_of), *arguments)


HOUSE = given(errors.InvalidHouse, *NO_NUMBERS, 3)
LOT = given(errors.InvalidLot, *NO_NUMBERS, 2)
NUMBER = given(errors.InvalidNumber, *NO_NUMBERS, 6, 200)
ASKER = ("asker", "a", given(errors.InvalidAsker, *NO_ASKERS))
QUESTION = ("question", CAT, given(errors.InvalidQuestion, *NO_QUESTIONS))
RANKED = ("rank", RANK, given(errors.NotARank, *NO_OBJECTS, GOOD))
NO_LEAST = given(errors.InvalidNumber, *NO_COUNTS)


class DeskTest(unittest.TestCase):
    def test_a_new_desk(self):
        desk = Desk(PLAIN)
        self.assertEqual((desk.log, len(desk), shown(desk, 1, 1)), (Log(), 0, ((), (), (), (), (), {})))
        self.assertTrue(desk and desk == desk and desk != Desk(PLAIN) and not desk == Desk(PLAIN))
        for value in NO_OBJECTS:
            self.assertTrue(desk != value and not desk == value)
        self.assertIs(type(raised(desk.place, 1, 0)), errors.InvalidHouse)
        self.assertIs(type(raised(desk.place, 0, 1)), errors.InvalidLot)
        desk.place(0, 0)
        self.assertEqual(desk.ask("a", CAT, RANK, 1), (0, ()))
        self.assertEqual(desk.marks, ())

    def test_wrong_sizes(self):
        def make(rule, lots, houses, cache):
            return Desk(rule, lots=lots, houses=houses, cache=cache)
        check_calls(self, make, ("rule", PLAIN, given(errors.NotAWordRule, *NO_OBJECTS, PLAIN.parts)),
                    ("lots", 4, given(errors.InvalidNumber, *NO_NUMBERS, 0, 5)), ("houses", 6, given(errors.InvalidNumber, *NO_NUMBERS, 0, 7)),
                    ("cache", 20, given(errors.InvalidNumber, *NO_NUMBERS, 21)))
        self.assertRaises(TypeError, Desk, PLAIN, 1)
        self.assertEqual(Desk(rule=PLAIN, lots=1, houses=1, cache=0).log, Log())

    def test_wrong_changes(self):
        for name, wrongs in (("put", [one[1] for one in NO_CHANGES if type(one) is tuple and len(one) == 2 and one[0] == "put"]),
                             ("gone", [one[1] for one in NO_CHANGES if type(one) is tuple and len(one) == 2 and one[0] == "gone"]),
                             ("policy", [one[1] for one in NO_CHANGES if type(one) is tuple and len(one) == 2 and one[0] == "policy"])):
            self.assertGreater(len(wrongs), 10)
            for value in wrongs:
                told = told_by(fresh(made, name, all_of), value)
                self.assertEqual(told, (errors.InvalidChange, {"given": (name, value)}))
                self.assertIs(type(told[1]["given"]), tuple)
        for key in NO_KEYS:
            self.assertEqual(told_by(fresh(made, "label", all_of), key, 5), (errors.InvalidChange, {"given": ("label", key, 5)}))
        for labels in ([], ("b", "a"), "pay", None):
            self.assertEqual(told_by(fresh(made, "label", all_of), 9, labels), (errors.InvalidChange, {"given": ("label", 9, labels)}))
            self.assertEqual(told_by(fresh(made, "label", all_of), labels=labels, key=9), (errors.InvalidChange, {"given": ("label", 9, labels)}))
        for name, args in (("gone", (7,)), ("label", (7, ()))):
            self.assertEqual(told_by(fresh(made, name, all_of), *args), (errors.UnknownKey, {"given": 7}))

    def test_changes_by_name(self):
        desk = Desk(PLAIN)
        for told in (desk.put(document=DOC), desk.label(labels=(), key=4), desk.policy(rights=SIX), desk.gone(key=4)):
            self.assertIsNone(told)
        self.assertEqual(desk.log, Log((("put", DOC), ("label", 4, ()), ("policy", SIX), ("gone", 4))))
        self.assertEqual(len(desk), 4)

    def test_wrong_turns_of_the_fleet(self):
        check_desk(self, made, "place", ("house", 1, HOUSE), ("lot", 0, LOT))
        check_desk(self, made, "ship", ("house", 0, HOUSE), ("lot", 0, LOT), ("number", 5, NUMBER))
        check_desk(self, made, "clean", ("house", 0, HOUSE), ("lot", 0, LOT), ("number", 5, NUMBER))
        check_desk(self, made, "lose", ("house", 0, HOUSE))
        check_desk(self, made, "back", ("house", 2, HOUSE))
        check_desk(self, made, "move", ("house", 0, HOUSE), ("lot", 0, LOT), ("target", 1, HOUSE))
        check_desk(self, made, "merge", ("house", 0, HOUSE), ("lot", 0, LOT))
        check_desk(self, made, "parts_of", ("house", 0, HOUSE), ("lot", 0, LOT))

    def test_what_comes_last_of_the_fleet(self):
        told = {
            ("place", 2, 0): (errors.Lost, 2), ("place", 0, 0): (errors.Present, 0), ("ship", 2, 0, 6): (errors.InvalidNumber, 6),
            ("ship", 2, 0, 5): (errors.Lost, 2), ("ship", 1, 0, 6): (errors.InvalidNumber, 6), ("ship", 1, 0, 0): (errors.Absent, 1),
            ("ship", 0, 0, 4): (errors.InvalidNumber, 4), ("clean", 0, 0, 0): (errors.InvalidNumber, 0), ("clean", 1, 0, 6): (errors.InvalidNumber, 6),
            ("clean", 1, 0, 5): (errors.Absent, 1), ("clean", 2, 0, 5): (errors.Lost, 2), ("lose", 2): (errors.Lost, 2), ("back", 1): (errors.Live, 1),
            ("move", 0, 1, 1): (errors.Present, 1), ("move", 0, 0, 2): (errors.Lost, 2), ("move", 1, 0, 2): (errors.Absent, 1),
            ("move", 2, 0, 2): (errors.Lost, 2), ("merge", 2, 0): (errors.Lost, 2), ("merge", 1, 0): (errors.Absent, 1),
            ("parts_of", 2, 0): (errors.Lost, 2), ("parts_of", 1, 0): (errors.Absent, 1),
        }
        for (name, *args), (error, value) in told.items():
            self.assertEqual(told_by(fresh(made, name, all_of), *args), (error, {"given": value}), (name, args))

    def keyworded(self, name, *arguments):
        """Checks a call whose last arguments are given by name alone."""
        names = [argument[0] for argument in arguments]

        def call(*args, **named):
            # All by name, or all by position but the last ones.
            last = {one: value for one, value in zip(names, args) if one in ("place", "least")}
            return fresh(made, name, all_of)(*args[:len(args) - len(last)], **last, **named)
        check_calls(self, call, *arguments)
        self.assertRaises(TypeError, getattr(made(), name), *[good for _, good, _ in arguments])

    def test_wrong_questions_of_askers(self):
        least = ("least", 3, NO_LEAST)
        self.keyworded("ask", ASKER, QUESTION, RANKED, MANY, least)
        self.keyworded("page", ASKER, QUESTION, RANKED, MANY, ("place", (3, 0), given(errors.InvalidPlace, *[one for one in NO_PLACES if one is not None])), least)
        self.keyworded("page", ASKER, QUESTION, RANKED, MANY, ("place", None, []), least)
        self.keyworded("begun", ASKER, ("start", "", given(errors.InvalidTerm, *NO_STARTS)), MANY, least)
        self.keyworded("neighbours", ASKER, ("term", "~" * 210, given(errors.InvalidTerm, *NO_TERMS)), MANY, least)
        self.keyworded("why", ASKER, QUESTION, ("key", 999, given(errors.InvalidNumber, *NO_KEYS)), least)
        self.keyworded("tally_days", ASKER, QUESTION, ("span", 10000, given(errors.InvalidNumber, *NO_NUMBERS, 0, 10001)), least)
        self.keyworded("tally_terms", ASKER, QUESTION, ("field", "any", given(errors.InvalidField, *NO_STRINGS, "", "Any", "all")), MANY, least)
        check_desk(self, made, "watch", ASKER, QUESTION)

    def test_traces_ahead_of_counts(self):
        desk = made()
        for least in (0, 4):
            self.assertEqual(told_by(desk.ask, "a", CAT, TRACED, 1, least=least), (errors.Trace, {}))
            self.assertEqual(told_by(desk.page, "a", CAT, TRACED, 1, least=least), (errors.Trace, {}))
            self.assertEqual(told_by(desk.page, "a", CAT, TRACED, 1, place=(9, 0), least=least), (errors.Trace, {}))
            self.assertIs(type(raised(desk.ask, "a", CAT, TRACED, 0, least=least)), errors.InvalidNumber)
            self.assertIs(type(raised(desk.page, "a", CAT, TRACED, 1, place=(9,), least=least)), errors.InvalidPlace)
        self.assertIs(type(raised(desk.page, "a", CAT, TRACED, 1, place=(9, 0), least=-1)), errors.InvalidNumber)
        self.assertIs(type(raised(desk.ask, "a", CAT, TRACED, 1, least=-1)), errors.InvalidNumber)
        self.assertEqual(desk.ask("a", CAT, BLIND, 5), desk.ask("a", CAT, Rank(*BLIND.parts[:5]), 5))

    def test_unserved_just_if_no_count_is(self):
        desk = made()
        calls = (lambda least: desk.ask("a", CAT, RANK, 1, least=least), lambda least: desk.page("a", CAT, RANK, 1, least=least),
                 lambda least: desk.begun("a", "", 1, least=least), lambda least: desk.neighbours("a", "cat", 1, least=least),
                 lambda least: desk.why("a", CAT, 4, least=least), lambda least: desk.tally_days("a", CAT, 1, least=least),
                 lambda least: desk.tally_terms("a", CAT, "any", 1, least=least))
        for call in calls:
            self.assertIsNone(raised(call, 3))
            for least in (4, 10 ** 59):
                self.assertEqual(told_by(call, least), (errors.Unserved, {}))
        desk.lose(0)
        for call in calls:
            self.assertEqual(told_by(call, 0), (errors.Unserved, {}))
        self.assertEqual(told_by(desk.watch, "a", CAT), (errors.Unserved, {}))

    def test_passed_places(self):
        desk = made()
        # The fence of a is 3; the copies hold the counts 1 to 3 of it.
        for count in (0, 1, 2, 4, 10 ** 59):
            for least in (0, 9):
                self.assertEqual(told_by(fresh(lambda: desk, "page", all_of), "a", CAT, RANK, 1, place=(count, 0), least=least),
                                 (errors.Passed, {"given": count}))
        for least in (0, 9):
            self.assertEqual(desk.page("a", CAT, RANK, 1, place=(3, 0), least=least), ((3, 1), ((4, 3),), False))
            self.assertEqual(desk.page("a", CAT, RANK, 1, place=(3, 10 ** 59), least=least), ((3, 10 ** 59), (), False))


class SearchesTest(unittest.TestCase):
    def test_numbers(self):
        desk = made(0)
        self.assertEqual([desk.watch("a", CAT), desk.watch(question=CAT, asker=""), desk.watch("a", ("not", CAT))], [0, 1, 2])
        self.assertIsNone(desk.drop(1))
        self.assertEqual(desk.watch("b", CAT), 3)
        self.assertEqual(desk.searches, ((0, "a", CAT), (2, "a", ("not", CAT)), (3, "b", CAT)))
        self.assertIsNone(desk.drop(number=3))
        self.assertEqual((desk.watch("b", CAT), desk.searches[-1]), (4, (4, "b", CAT)))

    def test_six(self):
        desk = made(6)
        self.assertEqual(told_by(fresh(lambda: desk, "watch", all_of), "a", CAT), (errors.TooMany, {"given": 6}))
        self.assertIs(type(raised(desk.watch, "ba", CAT)), errors.InvalidAsker)
        desk.drop(3)
        self.assertEqual(desk.watch("a", CAT), 6)
        self.assertEqual([number for number, _, _ in desk.searches], [0, 1, 2, 4, 5, 6])
        # That none is served goes ahead.
        desk.lose(0)
        self.assertEqual(told_by(desk.watch, "a", CAT), (errors.Unserved, {}))

    def test_unknown_ones(self):
        for name in ("drop", "tells"):
            wrongs = given(errors.UnknownSearch, *[one for one in NO_NUMBERS if one != 0], 1, 7)
            check_calls(self, fresh(made, name, all_of), ("number", 0, wrongs))
            self.assertEqual(told_by(getattr(made(0), name), 0), (errors.UnknownSearch, {"given": 0}))
            self.assertEqual(told_by(getattr(made(2), name), True), (errors.UnknownSearch, {"given": True}))
            self.assertEqual(told_by(getattr(made(2), name), False), (errors.UnknownSearch, {"given": False}))

    def test_the_count_it_has_come_to(self):
        desk = Desk(PLAIN, houses=2)
        desk.place(0, 0)
        self.assertEqual(desk.watch("", CAT), 0)
        for key in (1, 2, 3):
            desk.put((key, 0, (), "cat", ""))
        self.assertEqual(desk.tells(0), (0, ()))
        desk.ship(0, 0, 2)
        told = (0, ((1, 1, "came", 1), (2, 2, "came", 2)))
        self.assertEqual(desk.tells(0), told)
        # What has been told stays told, whatever copies are left.
        desk.lose(0)
        self.assertEqual(desk.tells(number=0), told)
        desk.place(1, 0)
        self.assertEqual(desk.tells(0), told)
        desk.ship(1, 0, 3)
        desk.gone(1)
        self.assertEqual(desk.tells(0), (0, (*told[1], (3, 3, "came", 3))))
        # Held counts below the fence count, too.
        self.assertEqual((desk.log.fence(""), raised(desk.ask, "", CAT, RANK, 1).__class__), (4, errors.Unserved))
        self.assertEqual(desk.tells(0)[1][-1], (3, 3, "came", 3))


class UndoTest(unittest.TestCase):
    def test_all_kinds(self):
        desk, other = Desk(PLAIN), (4, 9, (), "", "cat")
        for name, *args in (("put", DOC), ("put", other), ("label", 4, ("plan",)), ("policy", SIX), ("gone", 4), ("put", DOC), ("policy", ())):
            getattr(desk, name)(*args)
        many = len(desk)
        for _ in range(many):
            self.assertIsNone(desk.undo())
        opposites = (("policy", SIX), ("gone", 4), ("put", (4, 9, ("plan",), "", "cat")), ("policy", ()), ("label", 4, ()), ("put", DOC), ("gone", 4))
        self.assertEqual(desk.log.changes[many:], opposites)
        self.assertEqual(told_by(desk.undo), (errors.NothingToUndo, {}))
        self.assertEqual(len(desk), 2 * many)

    def test_undoing_is_not_undone(self):
        desk = Desk(PLAIN)
        desk.put(DOC)
        desk.put((5, *DOC[1:]))
        desk.undo()
        desk.put((6, *DOC[1:]))
        desk.undo()
        desk.undo()
        self.assertEqual(desk.log.changes[2:], (("gone", 5), ("put", (6, *DOC[1:])), ("gone", 6), ("gone", 4)))
        self.assertIs(type(raised(desk.undo)), errors.NothingToUndo)

    def test_the_200th_change(self):
        desk = Desk(PLAIN)
        for _ in range(99):
            desk.put(DOC)
            desk.label(4, ())
        desk.policy(SIX)
        self.assertEqual(len(desk), 199)
        desk.undo()
        self.assertEqual((len(desk), desk.log.changes[-1]), (200, ("policy", ())))
        changes = desk.log
        for call in (desk.undo, lambda: desk.put(DOC), lambda: desk.gone(4), lambda: desk.label(4, ()), lambda: desk.policy(())):
            self.assertEqual(told_by(call), (errors.TooMany, {"given": 201}))
        self.assertEqual(told_by(desk.gone, 5), (errors.UnknownKey, {"given": 5}))
        self.assertEqual(told_by(desk.gone, 0), (errors.InvalidChange, {"given": ("gone", 0)}))
        self.assertEqual(desk.log, changes)
        self.assertEqual(told_by(Desk(PLAIN).undo), (errors.NothingToUndo, {}))

    def test_nothing_left_in_a_full_log(self):
        desk = Desk(PLAIN)
        for _ in range(100):
            desk.put(DOC)
            desk.undo()
        self.assertEqual(len(desk), 200)
        self.assertEqual(told_by(desk.undo), (errors.NothingToUndo, {}))


class LedTest(unittest.TestCase):
    """Desks led through drawn deeds, beside plain books."""
    def same(self, desk, model):
        self.assertEqual(shown(desk, model.lots, model.houses), model.shown())
        self.assertEqual(len(desk), len(model.changes))

    def act(self, draw, desk, model):
        """Does something drawn with both."""
        if draw.random() < 0.6:
            deed, *args = drawn_turn(draw, model, drawn_texts)
            self.assertEqual(told_by(getattr(desk, deed), *args), model.do(deed, *args), (deed, args))
        else:
            self.ask(draw, desk, model)

    def ask(self, draw, desk, model):
        question, parts, many = draw.choice(self.questions), draw.choice(self.ranks), draw.choice((1, 2, 3, 40))
        asker, least = draw.choice(("", "a", "a", "ab")), draw.choice((0, 0, 0, 1, 3))
        rank, named = Rank(*parts), {} if least == 0 and draw.random() < 0.5 else {"least": least}
        kind = draw.choice(("ask", "ask", "ask", "page", "place", "begun", "neighbours", "why", "days", "terms", "watch", "tells"))
        if kind == "ask":
            told = told_by(desk.ask, asker, question, rank, many, **named), model.ask(asker, question, parts, many, least)
        elif kind == "page":
            told = told_by(desk.page, asker, question, rank, many, **named), model.page(asker, question, parts, many, None, least)
        elif kind == "place":
            place = (draw.choice((*model.held(asker), 0, 9)), draw.randint(0, 3))
            told = told_by(desk.page, asker, question, rank, many, place=place), model.page(asker, question, parts, many, place)
        elif kind == "begun":
            start = draw.choice(("", "c", "ca", "x"))
            told = told_by(desk.begun, asker, start, many, **named), model.begun(asker, start, many, least)
        elif kind == "neighbours":
            term = draw.choice(("ct", "cta", "rd", "xc", "catt"))
            told = told_by(desk.neighbours, asker, term, many, **named), model.neighbours(asker, term, many, least)
        elif kind == "why":
            key = draw.randint(1, 6)
            told = told_by(desk.why, asker, question, key, **named), model.why(asker, question, key, least)
        elif kind == "days":
            told = told_by(desk.tally_days, asker, question, many, **named), model.tally_days(asker, question, many, least)
        elif kind == "terms":
            field = draw.choice(("head", "body", "any"))
            told = told_by(desk.tally_terms, asker, question, field, many, **named), model.tally_terms(asker, question, field, many, least)
        elif kind == "watch":
            told = told_by(desk.watch, asker, question), model.watch(asker, question)
        else:
            number = draw.choice((*model.searches, *model.searches, 0, True, -1))
            told = told_by(desk.tells, number), model.tells(number)
        self.assertEqual(told[0], told[1], (kind, asker, question, parts, many, least))
        self.seen.add((kind, told[0][0] if type(told[0]) is tuple and type(told[0][0]) is type else None))

    def begin(self, draw, rule=PLAIN):
        lots, houses, size = draw.randint(1, 3), draw.randint(1, 4), draw.choice((0, 1, 2, 5, 20))
        desk, model = Desk(rule, lots=lots, houses=houses, cache=size), Model(rule, lots, houses, size)
        self.questions = drawn_questions(draw, 3)
        self.ranks = [traceless(drawn_parts(draw)), drawn_parts(draw), BLIND.parts]
        settle(desk, model, draw, drawn_texts, draw.choice((0, 3, 10)))
        self.same(desk, model)
        return desk, model

    def setUp(self):
        self.seen = set()

    def test_drawn_deeds(self):
        draw = random.Random(42)
        for at in range(250):
            desk, model = self.begin(draw, PLAIN if at % 4 else WordRule(*drawn_rule(draw)))
            for _ in range(45):
                self.act(draw, desk, model)
                self.same(desk, model)
        kinds = {kind for kind, error in self.seen if error is None}
        self.assertEqual(len(kinds), 10)
        self.assertLessEqual({("ask", errors.Unserved), ("ask", errors.Trace), ("place", errors.Passed), ("tells", errors.UnknownSearch)}, self.seen)

    def test_two_desks_by_turns(self):
        draw = random.Random(43)
        for _ in range(40):
            pairs = [self.begin(draw), self.begin(draw)]
            for _ in range(50):
                self.act(draw, *draw.choice(pairs))
                for desk, model in pairs:
                    self.same(desk, model)

    def trial(self, draw, desk, model, levels):
        """A trial with drawn deeds, and with trials within; returns the model behind it."""
        before, fails, kind = model.copied(), draw.random() < 0.6, draw.choice((Stop, KeyError, errors.Trace, KeyboardInterrupt))
        inner = model

        def block(held):
            nonlocal inner
            self.assertIs(held, desk)
            for _ in range(draw.randint(0, 6)):
                if levels and draw.random() < 0.3:
                    inner = self.trial(draw, desk, inner, levels - 1)
                else:
                    self.act(draw, desk, inner)
                self.same(desk, inner)
            if fails:
                raise kind()
            return "done"
        told = None
        try:
            if draw.random() < 0.5:
                told = desk.tried(block)
            else:
                with desk.trial() as held:
                    told = block(held)
        except kind:
            self.assertTrue(fails)
        self.assertEqual(told, None if fails else "done")
        model = before if fails else inner
        self.same(desk, model)
        return model

    def test_drawn_trials(self):
        draw = random.Random(44)
        for _ in range(120):
            desk, model = self.begin(draw)
            for _ in range(12):
                if draw.random() < 0.6:
                    model = self.trial(draw, desk, model, 2)
                else:
                    self.act(draw, desk, model)
            # The counts to which searches have come show themselves when nothing is held any more.
            for house in range(model.houses):
                if house not in model.fleet.lost():
                    desk.lose(house)
                    model.do("lose", house)
            for number in model.searches:
                self.assertEqual(desk.tells(number), model.tells(number))
            self.assertEqual(told_by(desk.undo), model.do_undo())

    def test_pages_with_deeds_between(self):
        draw = random.Random(45)
        whole = 0
        for _ in range(300):
            desk, model = self.begin(draw)
            asker, question, parts, many = draw.choice(("", "a")), draw.choice(self.questions), self.ranks[0], draw.randint(1, 2)
            told = told_by(desk.page, asker, question, Rank(*parts), many)
            rows, expected = (), None
            while type(told[0]) is not type:
                place, found, is_more = told
                if expected is None:
                    expected = model.page(asker, question, parts, 40, (place[0], 0))[1]
                rows += found
                self.assertEqual(rows, expected[:place[1]])
                self.assertIs(is_more, len(rows) < len(expected))
                if not is_more:
                    whole += 1
                    self.assertEqual(rows, expected)
                    break
                for _ in range(draw.randint(0, 4)):
                    self.act(draw, desk, model)
                told = told_by(desk.page, asker, question, Rank(*parts), many, place=place)
                if type(told[0]) is type:
                    self.assertEqual(told, (errors.Passed, {"given": place[0]}))
                    self.assertTrue(place[0] not in model.held(asker) or place[0] < model.fence(asker))
        self.assertGreater(whole, 100)


class Stop(Exception):
    """What a trial is ended with."""


class TrialTest(unittest.TestCase):
    def test_a_call_alone_changes_nothing(self):
        desk = made()
        before = all_of(desk)
        trial = desk.trial()
        self.assertEqual(all_of(desk), before)
        self.assertIsNot(trial, desk.trial())
        desk.put(DOC)
        # What is led back to is what the desk was when the block began.
        with self.assertRaises(Stop):
            with trial as held:
                self.assertIs(held, desk)
                desk.gone(4)
                raise Stop()
        self.assertEqual(desk.log.changes[-1], ("put", DOC))
        with trial:
            with self.assertRaises(Stop):
                with trial:
                    desk.gone(4)
                    raise Stop()
            desk.put((9, *DOC[1:]))
        self.assertEqual(desk.log.changes[-2:], (("put", DOC), ("put", (9, *DOC[1:]))))
        before = all_of(desk)
        with self.assertRaises(Stop):
            with trial:
                desk.gone(9)
                with trial:
                    desk.gone(4)
                raise Stop()
        self.assertEqual(all_of(desk), before)

    def test_numbers_marks_and_counts_come_back(self):
        desk = made()
        desk.put((9, 0, (), "cat", ""))
        told = desk.marks, desk.tells(0)
        with self.assertRaises(ZeroDivisionError):
            with desk.trial():
                for lot, house in ((0, 0), (1, 0)):
                    desk.ship(house, lot, 6)
                self.assertEqual(len(desk.tells(0)[1]), len(told[1][1]) + 1)
                self.assertEqual(desk.watch("a", CAT), 1)
                desk.ask("a", ("not", CAT), RANK, 5)
                self.assertNotEqual(desk.marks, told[0])
                1 // 0
        self.assertEqual((desk.marks, desk.tells(0)), told)
        self.assertEqual(desk.watch("a", CAT), 1)

    def test_a_count_that_comes_up_again(self):
        desk = Desk(PLAIN)
        desk.place(0, 0)
        with self.assertRaises(Stop):
            with desk.trial():
                desk.put((1, 0, (), "cat", ""))
                desk.ship(0, 0, 1)
                self.assertEqual(desk.page("", CAT, RANK, 1), ((1, 1), ((1, 15),), False))
                raise Stop()
        desk.put((2, 0, (), "cat", ""))
        desk.ship(0, 0, 1)
        self.assertEqual(desk.page("", CAT, RANK, 1, place=(1, 0)), ((1, 1), ((2, 15),), False))

    def test_tried(self):
        desk = made()
        before = all_of(desk)

        def wrong(held):
            held.put(DOC)
            held.merge(0, 0)
            return held.ask("a", CAT, TRACED, 1)
        self.assertEqual(told_by(desk.tried, wrong), (errors.Trace, {}))
        self.assertEqual(all_of(desk), before)
        self.assertEqual(desk.tried(action=lambda held: held.put((9, 0, (), "", "")) or len(held)), 6)
        self.assertEqual(len(desk), 6)


class PartsTest(unittest.TestCase):
    def test_one_part_for_each_shipping_that_has_entries(self):
        desk = made()
        self.assertEqual([[len(part) for part in desk.parts_of(*place)] for place in ((0, 0), (0, 1), (1, 1))], [[1, 1], [1, 1], [1, 1]])
        desk.ship(0, 0, 5)
        desk.policy(())
        desk.ship(0, 0, 6)
        self.assertEqual(len(desk.parts_of(lot=0, house=0)), 2)
        desk.clean(0, 0, 6)
        self.assertEqual(len(desk.parts_of(0, 0)), 2)
        self.assertIsNone(desk.merge(lot=0, house=0))
        self.assertEqual([part.entries for part in desk.parts_of(0, 0)], [((4, 4, (4, 20, ("pay",), "Dogs", "A dog and a cat")),)])
        desk.clean(0, 1, 5)
        desk.merge(0, 1)
        self.assertEqual(desk.parts_of(0, 1), ())
        desk.lose(1)
        self.assertIs(type(raised(desk.parts_of, 1, 1)), errors.Lost)
        desk.back(1)
        self.assertIs(type(raised(desk.parts_of, 1, 1)), errors.Absent)
        desk.move(0, 0, 1)
        self.assertEqual(len(desk.parts_of(1, 0)), 1)

    def test_two_hundred_parts(self):
        desk = Desk(PLAIN)
        desk.place(0, 0)
        for number in range(1, 201):
            desk.put((number % 7 + 1, number, (), "cat", ""))
            desk.ship(0, 0, number)
        self.assertEqual(len(desk.parts_of(0, 0)), 200)
        self.assertEqual(desk.ask("", CAT, RANK, 40)[0], 200)
        answer = desk.ask("", CAT, RANK, 40)
        desk.clean(0, 0, 200)
        desk.merge(0, 0)
        self.assertEqual([len(part) for part in desk.parts_of(0, 0)], [7])
        self.assertEqual(desk.ask("", CAT, RANK, 40), answer)


class UnseenTest(unittest.TestCase):
    """Two desks, one with changes put between that the asker cannot see, answer alike at each count."""
    def lead(self, draw, changes, counts, asker, size):
        """A desk whose copies are all at a version with the count, for each of the counts; its answers at each."""
        lots = draw.choice((1, 2))
        desk, log = Desk(PLAIN, lots=lots, houses=2, cache=size), Log(changes)
        for change in changes:
            getattr(desk, change[0])(*change[1:])
        for lot in range(lots):
            desk.place(lot, lot)
        desk.ship(0, 0, 0)
        answers = []
        for count in range(counts + 1):
            first, last = log.versions(count, asker)
            for lot in range(lots):
                desk.ship(lot, lot, draw.randint(first, last))
            answers.append(self.answers(desk, asker, count))
            if draw.random() < 0.5:
                desk.clean(0, 0, draw.choice((first, desk.copies[0][3])) if desk.copies[0][2] <= first else desk.copies[0][2])
                desk.merge(0, 0)
        return answers

    def answers(self, desk, asker, count):
        told = []
        if not desk.searches and told_by(desk.watch, asker, self.question) == 0:
            self.begun = desk.tells(0)[0]
        for _ in range(2):
            told.extend([
                told_by(desk.ask, asker, self.question, self.rank, 40), told_by(desk.page, asker, self.question, self.rank, 1),
                told_by(desk.page, asker, self.question, self.rank, 2, place=(count, 1)), told_by(desk.begun, asker, "", 40),
                told_by(desk.neighbours, asker, "cta", 40), told_by(desk.why, asker, self.question, 3),
                told_by(desk.tally_days, asker, self.question, 2), told_by(desk.tally_terms, asker, self.question, "any", 9),
                desk.log.fence(asker), told_by(desk.tells, 0)])
        return told

    def test_answers_at_each_count(self):
        draw = random.Random(46)
        for _ in range(80):
            changes, asker = drawn_changes(draw, draw.randint(1, 20), 6, drawn_texts), draw.choice(ASKERS)
            self.question, self.rank = drawn_questions(draw, 1)[0], Rank(*traceless(drawn_parts(draw)))
            more = with_unseen(draw, changes, asker, 20)
            counts = Log(changes).count(len(changes), asker)
            told = self.lead(draw, changes, counts, asker, draw.choice((0, 5)))
            self.assertEqual(self.lead(draw, more, counts, asker, draw.choice((0, 5))), told)

    def test_cache_of_others_turns_nothing(self):
        draw = random.Random(47)
        for _ in range(60):
            changes = drawn_changes(draw, 20, 6, drawn_texts)
            question, rank = drawn_questions(draw, 1)[0], Rank(*traceless(drawn_parts(draw)))
            desks = [Desk(PLAIN, cache=size) for size in (0, 20)]
            for desk in desks:
                desk.place(0, 0)
            for number, change in enumerate(changes, 1):
                asker = draw.choice(ASKERS)
                for desk in desks:
                    getattr(desk, change[0])(*change[1:])
                    desk.ship(0, 0, number)
                self.assertEqual(*[desk.ask(asker, question, rank, 3) for desk in desks])
            self.assertEqual(desks[0].marks, ())
            seen = {document for version in replayed(changes) for document in version[0]}
            for mark in desks[1].marks:
                self.assertEqual((mark[1:3], mark[3]), ((question, rank.parts), 3))
                self.assertLessEqual({(key, day, head, body) for key, day, head, body in mark[0]},
                                     {(key, day, head, body) for key, day, _, head, body in seen})


if __name__ == "__main__":
    unittest.main()

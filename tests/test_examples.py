"""The examples of the document, section by section; later ones go on with the names of those before them."""

import unittest

from tests.shown import outcome_of, run_block, steps_of

WORDS = r'''
>>> from plainscan.words import WordRule, plain_rule
>>> plain = plain_rule()
>>> [plain.row("The cities of a Boss"), plain.row("It's 2 dogs-dogs."), plain.row(" -- "), plain.term("the"), plain.term("bus"), plain.becomes("Q"), plain.becomes("'"), plain.becomes("-")]
[(None, 'city', None, None, 'boss'), ('its', '2', 'dog', 'dog'), (), None, 'bus', 'q', '', None]
>>> WordRule("ab", (("A", "a"), ("A", "b")))
raises InvalidFolds(index=1)
'''
WORDLIKES = r'''
>>> from plainscan.wordlikes import parting_text, read_alike
>>> one, two, three = WordRule("ab", (), "", (("a", "", 1),)), WordRule("ab", (), "", (("a", "", 1), ("aa", "a", 1))), WordRule("ab", (), "", (("a", "", 2),))
>>> [read_alike(one, two), read_alike(one, three), one.row("ba"), three.row("ba"), parting_text(one, two), read_alike(WordRule("", (), ""), WordRule("a", (("a", "-"),)))]
[True, False, ('b',), ('ba',), None, True]
'''
RIGHTS = r'''
>>> from plainscan.rights import Policy, is_guard, is_open, parting_view, shows_no_more
>>> a, b = ("badge", "a"), ("badge", "b")
>>> open_house = Policy((("pay", ("all", (a, b))), ("plan", ("any", (a, b)))))
>>> closed = Policy((("pay", ("all", (a, ("not", b)))),))
>>> [is_open(("not", a), ""), is_open(("all", ()), ""), is_open(("any", ()), "abcdef"), is_guard(("badge", "g")), open_house.sees(("pay", "plan"), "ab"), open_house.sees(("map",), "ab"), len(open_house.askers(("plan",))), closed.sees((), "")]
[True, True, False, False, True, False, 48, True]
>>> [shows_no_more(closed, open_house), parting_view(closed, open_house), parting_view(open_house, closed), shows_no_more(Policy(()), closed)]
[False, (('pay',), 'a'), (('pay',), 'ab'), True]
'''
DOCUMENTS = r'''
>>> from plainscan.documents import Log, is_document
>>> doc = (4, 20, (), "Dogs", "A dog and a cat")
>>> secret = (7, 21, ("pay",), "Pay", "The cat's pay")
>>> log = Log((("put", doc), ("put", secret), ("policy", (("pay", a),)), ("label", 4, ("pay",)), ("gone", 7)))
>>> [len(log), log.seen(2, ""), log.seen(3, "a"), log.count(5, ""), log.count(5, "a"), log.versions(1, ""), log.versions(2, "a"), log.fence(""), log.fence("a")]
[5, ((4, 20, 'Dogs', 'A dog and a cat'),), ((4, 20, 'Dogs', 'A dog and a cat'), (7, 21, 'Pay', "The cat's pay")), 2, 3, (1, 3), (3, 4), 2, 3]
>>> [log.documents(4)[0][2], log.policy(2).rights, is_document((0, 20, (), "", ""))]
[('pay',), (), False]
>>> log.then(("label", 7, ()))
raises UnknownKey(given=7)
'''
QUESTIONS = r'''
>>> from plainscan.questions import atoms, holds, open_atoms, question_text, read_question, scored_terms
>>> cat, row, near = ("word", "any", "cat"), ("row", "body", ("red", "cat")), ("near", "any", "cat", "cat", 2)
>>> wish = ("all", (cat, ("not", row), ("any", (near, cat))))
>>> [question_text(wish), read_question(question_text(wish)) == wish, atoms(wish) == (cat, row, near), open_atoms(wish) == (cat, near), scored_terms(wish)]
['all(word(any, cat), not(row(body, red cat)), any(near(any, cat, cat, 2), word(any, cat)))', True, True, True, ('cat',)]
>>> body = ("red", None, "cat", "cat")
>>> [holds(cat, (), body), holds(row, (), body), holds(near, (), body), holds(near, ("cat",), ("cat",)), holds(("starts", "head", "ca"), ("scatter",), ("cat",)), holds(("any", ()), (), ()), holds(("not", cat), (), ())]
raises InvalidQuestion(given=('any', ()))
>>> [holds(cat, (), body), holds(row, (), body), holds(near, (), body), holds(near, ("cat",), ("cat",)), holds(("starts", "head", "ca"), ("scatter",), ("cat",)), holds(("not", cat), (), ())]
[True, False, True, False, False, True]
'''
QUESTIONLIKES = r'''
>>> from plainscan.questionlikes import finds_no_more, finds_same, looks_of, parting_rows, row_states, state_of
>>> both = ("all", (("word", "body", "red"), ("word", "body", "cat")))
>>> close = ("near", "body", "red", "cat", 1)
>>> [looks_of(row, close), state_of(row, close, ("cat", "red")), len(row_states(cat, ("starts", "any", "ca")))]
[(('row', ('red', 'cat')), ('near', 'red', 'cat', 1)), (1, (9, 9)), 3]
>>> [finds_no_more(row, close), finds_no_more(close, row), parting_rows(close, row), finds_no_more(close, both), finds_same(("not", ("not", cat)), cat), finds_same(("word", "any", "cat"), ("any", (("word", "head", "cat"), ("word", "body", "cat"))))]
[True, False, ((), ('cat', 'red')), True, True, True]
>>> finds_no_more(("starts", "any", "cat"), ("any", (cat, ("starts", "any", "cat"))))
True
'''
RANKING = r'''
>>> from plainscan.ranking import Rank, ranked, score
>>> rank = Rank((0, 5, 7), (0, 1, 2, 3), (3, 2, 1), 4, "young")
>>> [rank.points(3, 0), rank.points(1, 2), rank.factor(0), rank.factor(1), rank.factor(3), rank.factor(4), rank.factor(1000), rank.value(9, 1, 0), rank.is_blind()]
[7, 7, 0, 3, 2, 1, 1, 5, False]
>>> [score(wish, rank, ("cat",), body, (("cat", 2),)), score(wish, rank, (), ("cat",), ()), score(("all", (cat, ("word", "head", "dog"))), rank, ("dog",), ("cat", "dog"), (("cat", 1), ("dog", 4)))]
[18, 0, 9]
>>> rows = ((1, 5, (), ("cat",)), (2, 9, ("cat",), ()), (3, 9, (), ("cat", "cat")), (4, 9, (), ("dog",)))
>>> [ranked(rows, (), cat, rank, 40), ranked(rows, ((8, 0, ("cat",), ()),), cat, Rank((0, 1), (0, 1), (3, 2, 1), 0, "old", "all"), 2), ranked((), rows, cat, rank, 1)]
[((2, 10), (3, 4), (1, 2)), ((1, 1), (2, 1)), ()]
'''
RANKINGLIKES = r'''
>>> from plainscan.rankinglikes import is_parting, multipliers, parting, parting_number, ranked_alike, shows_trace, step_value, trace
>>> one, two, three = Rank((0, 1), (0, 2), (3, 1), 1, "key"), Rank((0, 2, 2), (0, 4), (3, 1, 1), 2, "key"), Rank((0, 1), (0, 3), (3, 1), 1, "key")
>>> [ranked_alike(one, two), multipliers(one, two), ranked_alike(one, three), multipliers(one, three), step_value(three, ("word", 1, (0, 1), (0, 0)))]
[True, (2, 1), False, None, 9]
>>> first, second = ("word", 2, (0, 1), (1, 0)), ("bonus",)
>>> [is_parting(one, three, ((first, 1), (second, -1))), is_parting(one, two, ((first, 1), (second, -1))), is_parting(one, three, ()), parting_number(one, three, 6), is_parting(one, three, parting(one, three)), parting_number(one, two, 6)]
[True, False, False, 2, True, None]
>>> [shows_trace(one), shows_trace(Rank((0, 1), (0,), (3, 1), 1, "key", "all")), shows_trace(Rank((0, 1), (0,), (2, 2), 1, "key", "all")), trace(one)]
[False, True, False, None]
'''
SCANS = r'''
>>> from plainscan.scans import row_documents, scan, scan_count
>>> [row_documents(log, plain, 3, "a")[0][1], row_documents(log, plain, 3, "")[1] == row_documents(log, plain, 3, "a")[0][1:]]
[(7, 21, ('pay',), (None, 'cat', 'pay')), True]
>>> [scan(log, plain, 3, "a", cat, rank, 5), scan(log, plain, 3, "", cat, rank, 5), scan_count(log, plain, 2, "a", cat, rank, 1)]
[((7, 2), (4, 2)), ((4, 3),), ((7, 2),)]
'''
HINTS = r'''
>>> from plainscan.hints import begun, neighbours
>>> [begun(rows, "", 40), begun(rows, "c", 1), begun(rows, "cats", 5), neighbours(rows, "cta", 5), neighbours(rows, "dogs", 5), neighbours(rows, "cat", 5)]
[(('cat', 3), ('dog', 1)), (('cat', 3),), (), (('cat', 3),), (('dog', 1),), ()]
'''
PAGES = r'''
>>> from plainscan.pages import page_of
>>> [page_of(log, plain, (2, 0), "a", cat, rank, 1), page_of(log, plain, (2, 1), "a", cat, rank, 1), page_of(log, plain, (2, 5), "a", cat, rank, 1)]
[((2, 1), ((7, 2),), True), ((2, 2), ((4, 2),), False), ((2, 5), (), False)]
'''
WINDOWS = r'''
>>> from plainscan.windows import cut_out, excerpt, is_shown, least_window, spots
>>> head, body = ("dog",), ("cat", "red", None, "cat", "dog", "cat")
>>> pair = ("all", (cat, ("word", "any", "dog"), ("not", ("word", "head", "cat"))))
>>> [least_window(pair, head, body), cut_out(head, body, ((0, 0), (3, 5))), is_shown(pair, head, body, ((0, 0), (0, 4))), is_shown(pair, head, body, ((0, 1), (0, 1))), least_window(("not", pair), head, body), least_window(("not", row), head, body)]
[((0, 0), (3, 5)), ((None,), (None, None, None, 'cat', 'dog', None)), False, True, None, ((0, 0), (0, 0))]
>>> [spots(plain, "It's  2 dogs-dogs."), excerpt(plain, "It's  2 dogs-dogs.", (1, 3)), excerpt(plain, "'tis", (0, 1)), excerpt(plain, "cat", (0, 0))]
[((0, 4), (6, 7), (8, 12), (13, 17)), '2 dogs', 'tis', '']
'''
TALLIES = r'''
>>> from plainscan.tallies import added_days, added_terms, tally_days, tally_terms
>>> [tally_days(rows, cat, 5), tally_days(rows, cat, 10), tally_terms(rows, ("not", near), "body"), added_days((((5, 1),), ((0, 2), (5, 2)))), added_terms(((("cat", 2), ("dog", 1)), (("dog", 2), ("cat", 1), ("eel", 3))))]
[((5, 3),), ((0, 3),), (('cat', 1), ('dog', 1)), ((0, 2), (5, 3)), (('cat', 3), ('dog', 3), ('eel', 3))]
'''
PARTS = r'''
>>> from plainscan.parts import Part, all_terms, merged, part_of, plain_part, reading, term_list
>>> early, late = part_of(log, 1, 2), part_of(log, 3, 5)
>>> [len(early), len(late), late.entries[1], (early + late).entries == part_of(log, 1, 5).entries, reading((late, early), 4) == log.documents(4)]
[2, 2, (7, 5, None), True, True]
>>> [len(merged((early, late), 5)), len(merged((early, late), 5, whole=True)), len(merged((late,), 5, whole=True)), plain_part(log, 5) == merged((late, merged((early,), 2)), 5, whole=True), len(plain_part(log, 4))]
[2, 1, 1, True, 3]
>>> [term_list((early, late), plain, 3, "cat"), all_terms((early, late), plain, 5)]
[((4, (), (4,)), (7, (), (1,))), ('and', 'cat', 'dog')]
'''
SEARCHES = r'''
>>> from plainscan.searches import search
>>> [search((late, early), log.policy(3), plain, 3, "a", cat, rank, 5), search((early,), log.policy(3), plain, 3, "", cat, rank, 5), search((), log.policy(0), plain, 0, "", ("not", cat), rank, 5)]
[((7, 2), (4, 2)), ((4, 3),), ()]
'''
LOOKS = r'''
>>> from plainscan.looks import any_fewest, best_keys, fewest_looks, settled, sums_of
>>> lists = (((9, 5), (4, 2), (1, 7)), ((6, 5), (6, 8), (2, 2)))
>>> [best_keys(lists, 2), sums_of(lists, (1, 1), 8), sums_of(lists, (1, 2), 2), settled(lists, (1, 1), 1), settled(lists, (1, 1), 2), settled(lists, (2, 3), 2)]
[(5, 2), (0, 15), (0, 13), (5,), None, None]
>>> [settled(lists, (2, 2), 1), fewest_looks(lists, 1), fewest_looks(lists, 2), settled(lists, any_fewest(lists, 2), 2), settled(lists, (3, 3), 9)]
[(5,), 2, 6, (5, 2), (5, 2, 8, 7)]
'''
FLEETS = r'''
>>> from plainscan.fleets import Fleet, held_counts, served_count, weak_sets
>>> fleet = Fleet(1, 3)
>>> fleet.place(0, 0)
>>> fleet.place(2, 0)
>>> fleet.ship(0, 0, 2)
>>> fleet.ship(2, 0, 4)
>>> fleet.clean(2, 0, 3)
>>> [fleet.copies, held_counts(fleet, log, "a"), served_count(fleet, log, "a", 0), served_count(fleet, log, "", 0), served_count(fleet, log, "f", 2), weak_sets(fleet, log, "", 0)]
[((0, 0, 0, 2), (2, 0, 3, 4)), (0, 1, 2), None, 2, 2, ((2,),)]
>>> fleet.ship(0, 0, 1)
raises InvalidNumber(given=1)
'''
CACHES = r'''
>>> from plainscan.caches import Cache
>>> cache = Cache(2)
>>> cache.keep((1,), ((5, 5),))
>>> cache.keep((2,), ())
>>> [cache.find((1,)), cache.find((3,)), cache.marks]
[((5, 5),), None, ((2,), (1,))]
>>> cache.keep((3,), ((7, 1),))
>>> [cache.find((2,)), cache.find((1,)), len(cache)]
[None, ((5, 5),), 2]
'''
KEPT = r'''
>>> from plainscan.kept import Receiver, joined, keys_behind, notes_of, true_list
>>> tells = true_list(log, plain, "a", cat, 0)
>>> [tells, true_list(log, plain, "", cat, 1), joined((notes_of(log, plain, "a", cat, 0, 3, 2, 1), notes_of(log, plain, "a", cat, 0, 3, 2, 0), notes_of(log, plain, "a", cat, 0, 2, 2, 1))) == tells, keys_behind((), tells)]
[((1, 1, 'came', 4), (2, 2, 'came', 7), (3, 3, 'went', 7)), ((1, 2, 'went', 4),), True, (4,)]
>>> receiver = Receiver()
>>> [receiver.take(tells[1]), receiver.take(tells[1]), receiver.waiting, receiver.take(tells[0]), receiver.take(tells[2]), receiver.told == tells]
[(), (), ((2, 2, 'came', 7),), ((1, 1, 'came', 4), (2, 2, 'came', 7)), ((3, 3, 'went', 7),), True]
>>> receiver.take((3, 3, "went", 4))
raises Clash(number=3)
'''
DESKS = r'''
>>> from plainscan.desks import Desk
>>> desk = Desk(plain, lots=2, houses=2, cache=4)
>>> for change in log.changes[:2]:
...     desk.put(change[1])
>>> desk.policy((("pay", a),))
>>> for lot in (0, 1):
...     desk.place(lot, lot)
...     desk.ship(lot, lot, 3)
>>> [desk.ask("a", cat, rank, 5), desk.ask("", cat, rank, 5), len(desk.marks), desk.watch("a", cat), desk.neighbours("", "dot", 3)]
[(2, ((7, 2), (4, 2))), (1, ((4, 3),)), 2, 0, (1, (('dog', 1),))]
>>> [desk.page("a", cat, rank, 1), desk.page("a", cat, rank, 1, place=(2, 1)), desk.why("a", cat, 7), desk.why("", cat, 7), desk.tally_terms("a", cat, "any", 2), desk.tally_days("", cat, 10)]
[((2, 1), ((7, 2),), True), ((2, 2), ((4, 2),), False), (2, ('', "cat's")), (1, None), (2, (('cat', 2), ('and', 1))), (1, ((20, 1),))]
>>> desk.label(4, ("pay",))
>>> desk.gone(7)
>>> desk.ship(0, 0, 5)
>>> desk.ask("", cat, rank, 5)
raises Unserved()
>>> desk.ship(1, 1, 4)
>>> desk.ask("", cat, rank, 5)
(2, ())
>>> desk.ask("a", cat, rank, 5)
raises Unserved()
>>> desk.page("a", cat, rank, 1, place=(2, 1))
raises Passed(given=2)
>>> desk.ship(1, 1, 5)
>>> [desk.ask("a", cat, rank, 5), desk.tells(0), desk.undo(), len(desk), desk.log.documents(6) == desk.log.documents(4)]
[(3, ((4, 3),)), (2, ((1, 3, 'went', 7),)), None, 6, True]
'''
CONSOLES = r'''
>>> from plainscan.consoles import Console
>>> console = Console(desk, rank)
>>> list(map(console.say, ["page a - - 1 word(any, cat)", "page a 3 1 1 word(any, cat)", "why a 4 word(any, cat)", "why a 7 word(any, cat)", "days a 10 word(any, cat)", "terms a body 1 word(any, cat)"]))
['3 1 end: 4 3', '3 1 end: none', '3:  | cat', '3: none', '3: 20 1', '3: and 1']
>>> list(map(console.say, ["version", "ship 0 0 6", "ship 1 1 6", "ask a 5 any(word(any, cat))", "put 9 3 - | Cats | cat", "fence a", "tells 0", "begun - 3 c", "undo", "copies"]))
['6', 'done', 'done', '4: 7 2, 4 2', 'done', '3', '2: 3 went 7, 4 came 7', '2: none', 'done', '0 0 0 6, 1 1 0 6']
'''
CERTIFICATES = r'''
>>> from plainscan.checker import accepts
>>> from plainscan.certificates import certify_finds, certify_ranked, certify_served, certify_settled
>>> claim, paper = certify_finds(close, row)
>>> [claim == ("finds more", close, row), accepts(claim, ((), ("cat", "red"))), accepts(claim, ((), ("red", "cat"))), accepts(("ranked alike", one.parts, two.parts), (4, 2)), accepts(("ranked alike", one.parts, three.parts), (1, 1))]
[True, True, False, True, False]
>>> [certify_settled(lists, (1, 1), 1), certify_served(fleet, log, "a", 0), certify_served(fleet, log, "", 1)]
[(('settled', (((9, 5), (4, 2), (1, 7)), ((6, 5), (6, 8), (2, 2))), 1, (5,)), (1, 1)), (('unserved', 1, ((0, 0, 0, 2), (2, 0, 3, 4)), (('put', (4, 20, (), 'Dogs', 'A dog and a cat')), ('put', (7, 21, ('pay',), 'Pay', "The cat's pay")), ('policy', (('pay', ('badge', 'a')),)), ('label', 4, ('pay',)), ('gone', 7)), 'a', 0), ()), (('served', 1, ((0, 0, 0, 2), (2, 0, 3, 4)), (('put', (4, 20, (), 'Dogs', 'A dog and a cat')), ('put', (7, 21, ('pay',), 'Pay', "The cat's pay")), ('policy', (('pay', ('badge', 'a')),)), ('label', 4, ('pay',)), ('gone', 7)), '', 1, 2), ((2, 4),))]
'''
BLOCKS = (WORDS, WORDLIKES, RIGHTS, DOCUMENTS, QUESTIONS, QUESTIONLIKES, RANKING, RANKINGLIKES, SCANS, HINTS, PAGES,
          WINDOWS, TALLIES, PARTS, SEARCHES, LOOKS, FLEETS, CACHES, KEPT, DESKS, CONSOLES, CERTIFICATES)


class ExamplesTest(unittest.TestCase):
    def test_all_sections_in_their_order(self):
        names = {}
        for block in BLOCKS:
            run_block(self, block, names)


class RunnerTest(unittest.TestCase):
    """The runner itself must see what is wrong."""
    def test_steps(self):
        block = ">>> for k in (1, 2):\n...     k\n>>> k\n2\n"
        self.assertEqual(steps_of(block), [["for k in (1, 2):\n    k", None], ["k", "2"]])

    def test_outcomes(self):
        self.assertEqual(outcome_of("'a' + 'b'", {}), "'ab'")
        self.assertIsNone(outcome_of("k = 5", {}))
        self.assertIsNone(outcome_of("None", {}))
        names = {}
        outcome_of("from plainscan.errors import Disagree, Trace", names)
        outcome_of("def fail(error):\n    raise error", names)
        self.assertEqual(outcome_of("fail(Disagree(1, 'x'))", names), "raises Disagree(key=1, stamp='x')")
        self.assertEqual(outcome_of("fail(Trace())", names), "raises Trace()")


if __name__ == "__main__":
    unittest.main()

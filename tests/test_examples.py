"""The examples of the document, section by section; later ones go on with the names of those before them."""

import unittest

from tests.shown import outcome_of, run_block, steps_of

WORDS = r'''
>>> from plainscan.words import WordRule, plain_rule
>>> plain = plain_rule()
>>> [plain.row("The cities of a Boss"), plain.row("It's 2 dogs-dogs."), plain.row(" -- "), plain.term("the"), plain.term("bus"), plain.becomes("Q"), plain.becomes("'"), plain.becomes("-")]
[(None, 'city', None, None, 'boss'), ('its', '2', 'dog', 'dog'), (), None, 'bus', 'q', '', None]
>>> WordRule("ab", (("A", "a"), ("A", "b")))
raises InvalidFolds(index=1)
'''
WORDLIKES = r'''
>>> from plainscan.wordlikes import parting_text, read_alike
>>> one, two, three = WordRule("ab", (), "", (("a", "", 1),)), WordRule("ab", (), "", (("a", "", 1), ("aa", "a", 1))), WordRule("ab", (), "", (("a", "", 2),))
>>> [read_alike(one, two), read_alike(one, three), one.row("ba"), three.row("ba"), parting_text(one, two), read_alike(WordRule("", (), ""), WordRule("a", (("a", "-"),)))]
[True, False, ('b',), ('ba',), None, True]
'''
RIGHTS = r'''
>>> from plainscan.rights import Policy, is_guard, is_open, parting_view, shows_no_more
>>> a, b = ("badge", "a"), ("badge", "b")
>>> open_house = Policy((("pay", ("all", (a, b))), ("plan", ("any", (a, b)))))
>>> closed = Policy((("pay", ("all", (a, ("not", b)))),))
>>> [is_open(("not", a), ""), is_open(("all", ()), ""), is_open(("any", ()), "abcdef"), is_guard(("badge", "g")), open_house.sees(("pay", "plan"), "ab"), open_house.sees(("map",), "ab"), len(open_house.askers(("plan",))), closed.sees((), "")]
[True, True, False, False, True, False, 48, True]
>>> [shows_no_more(closed, open_house), parting_view(closed, open_house), parting_view(open_house, closed), shows_no_more(Policy(()), closed)]
[False, (('pay',), 'a'), (('pay',), 'ab'), True]
'''
BLOCKS = (WORDS, WORDLIKES, RIGHTS)


class ExamplesTest(unittest.TestCase):
    def test_all_sections_in_their_order(self):
        names = {}
        for block in BLOCKS:
            run_block(self, block, names)


class RunnerTest(unittest.TestCase):
    """The runner itself must see what is wrong."""
    def test_steps(self):
        block = ">>> for k in (1, 2):\n...     k\n>>> k\n2\n"
        self.assertEqual(steps_of(block), [["for k in (1, 2):\n    k", None], ["k", "2"]])

    def test_outcomes(self):
        self.assertEqual(outcome_of("'a' + 'b'", {}), "'ab'")
        self.assertIsNone(outcome_of("k = 5", {}))
        self.assertIsNone(outcome_of("None", {}))
        names = {}
        outcome_of("from plainscan.errors import Disagree, Trace", names)
        outcome_of("def fail(error):\n    raise error", names)
        self.assertEqual(outcome_of("fail(Disagree(1, 'x'))", names), "raises Disagree(key=1, stamp='x')")
        self.assertEqual(outcome_of("fail(Trace())", names), "raises Trace()")


if __name__ == "__main__":
    unittest.main()

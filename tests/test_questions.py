"""Rows, atoms and questions: points 20 and 21 and the section of the questions."""

import random
import re
import unittest

from plainscan import errors
from plainscan.questions import (
    atoms, holds, is_question, is_row, open_atoms, question_text, read_question, scored_terms)
from tests.calls import NO_NUMBERS, NO_OBJECTS, NO_STRINGS, NO_TUPLES, check_calls, given, raised

CAT, DOG = ("word", "any", "cat"), ("word", "head", "dog")
NO_ROWS = (*NO_TUPLES, ["cat"], (None,) * 401, ("cat",) * 401, ("",), ("a b",), (" ",), ("a" * 211,), ("50%",), ("a\n",), (1,),
           (True,), (("cat",),), ("cat", ["cat"]), (b"cat",), ("cat", None, "\x7f"))
NO_NAMED = (*NO_STRINGS, "", "Cat", "a b", "a" * 13, "it's", "%", "a,", "a\n", "\u00e9")
NO_ATOMS = (
    *NO_OBJECTS, ["word", "any", "cat"], ("word",), ("word", "any"), ("word", "any", "cat", "dog"), ("words", "any", "cat"),
    ("word", "cat"), ("Word", "any", "cat"), (b"word", "any", "cat"), ("", "any", "cat"), (None, "any", "cat"),
    ("word", "any", ("cat",)), ("starts", "any", "abcdefg"), ("starts", "any", ("c",)), ("starts", "any", "c", 1),
    ("row", "any", "cat"), ("row", "any", ("cat",)), ("row", "any", ()), ("row", "any", ("cat",) * 5),
    ("row", "any", ["cat", "red"]), ("row", "any", "cat", "red"), ("row", "any", ("cat", "red"), 1),
    ("far", "any", "cat", "red", 1), (None, "any", "cat", "red", 1), ("word", "any", "cat", "red", 1), ("near", "any", "cat", "red"),
    ("near", "any", ("cat", "red"), 1), ("near", "any", "cat", "red", 1, 1), ("near", "any", "cat", "red", 7),
    ("near", "any", "cat", "red", 0), (["word"], "any", "cat"), (("word",), "any", "cat"),
    *((kind, field, "cat") for kind in ("word", "starts")
      for field in (*NO_STRINGS, "", "Head", "heads", "headbody", "a", "head ")),
    *((kind, "any", term) for kind in ("word", "starts") for term in NO_NAMED),
    *(("row", "any", terms) for terms in NO_TUPLES),
    *(("row", "any", ("cat", term)) for term in NO_NAMED),
    *(("near", "any", "cat", term, 1) for term in NO_NAMED),
    *(("near", "any", term, "cat", 1) for term in NO_NAMED),
    *(("near", "any", "cat", "red", most) for most in NO_NUMBERS),
)
NO_QUESTIONS = (
    *NO_ATOMS, ("not",), ("not", CAT, CAT), ("not", (CAT,)), ("not", ()), ("all", CAT), ("all", ()), ("any", ()), ("any",),
    ("all", (CAT,) * 7), ("any", [CAT]), ["not", CAT], ("all", (CAT,), (CAT,)), ("none", (CAT,)), ("not", "all", (CAT,)),
    (None, CAT), (("all",), (CAT,)), (["not"], CAT), (b"not", CAT), ("not", ("not", ("not", ("not", CAT)))),
    ("all", (("any", (("all", (("any", (CAT,)),)),)),)), ("any", (("all", (CAT,) * 4), ("all", (DOG,) * 3))),
    *(("not", value) for value in NO_ATOMS), *(("all", (CAT, value)) for value in NO_ATOMS),
)
NAMED = "[a-z0-9]{1,12}"
FIELD = "(head|body|any)"
ATOM = (rf"(word\({FIELD}, {NAMED}\)|starts\({FIELD}, [a-z0-9]{{1,6}}\)|row\({FIELD}, {NAMED}( {NAMED}){{1,3}}\)"
        rf"|near\({FIELD}, {NAMED}, {NAMED}, [1-6]\))").replace("(", "(?:").replace("\\(?:", "\\(")


def pattern(levels):
    """A pattern of the texts of questions with so many levels at most, but for the numbers of nodes and atoms."""
    if levels == 1:
        return ATOM
    inner = pattern(levels - 1)
    return rf"(?:{ATOM}|not\({inner}\)|(?:all|any)\({inner}(?:, {inner}){{0,5}}\))"


PATTERN = re.compile(pattern(4))


def is_written(line):
    """Whether a line is the text of a question, by a pattern and by counts of its brackets and atoms."""
    many = len(re.findall(r"(?:word|starts|row|near)\(", line))
    return PATTERN.fullmatch(line) is not None and line.count("(") <= 12 and many <= 6


def drawn_atom(draw, terms=("cat", "red", "ca", "c"), prefixes=("c", "ca", "r")):
    field = draw.choice(("head", "body", "any"))
    kind = draw.choice(("word", "starts", "row", "near"))
    if kind == "row":
        return (kind, field, tuple(draw.choice(terms) for _ in range(draw.randint(2, 4))))
    if kind == "near":
        return (kind, field, draw.choice(terms), draw.choice(terms), draw.randint(1, 6))
    return (kind, field, draw.choice(terms if kind == "word" else prefixes))


def drawn_question(draw, levels=4, make=drawn_atom):
    """A drawn question; perhaps one with too many nodes or atoms."""
    kind = draw.choice(("atom", "not", "all", "any")) if levels > 1 else "atom"
    if kind == "atom":
        return make(draw)
    if kind == "not":
        return (kind, drawn_question(draw, levels - 1, make))
    return (kind, tuple(drawn_question(draw, levels - 1, make) for _ in range(draw.choice((1, 2, 2, 3, 6)))))


def drawn_questions(draw, many, make=drawn_atom):
    found = []
    while len(found) < many:
        question = drawn_question(draw, 4, make)
        if is_question(question):
            found.append(question)
    return found


def counted(question):
    """The pair of the numbers of nodes and of atoms."""
    kind, inner = question[0], question[1]
    if kind not in ("not", "all", "any"):
        return 1, 1
    parts = [counted(part) for part in ((inner,) if kind == "not" else inner)]
    return 1 + sum(nodes for nodes, _ in parts), sum(many for _, many in parts)


def plain_text(question):
    if question[0] in ("all", "any"):
        return question[0] + "(" + ", ".join(plain_text(part) for part in question[1]) + ")"
    if question[0] == "not":
        return "not(" + plain_text(question[1]) + ")"
    if question[0] == "row":
        return "row(" + question[1] + ", " + " ".join(question[2]) + ")"
    return question[0] + "(" + ", ".join(map(str, question[1:])) + ")"


def plain_bears(atom, row):
    """Whether an atom holds in one row, by a look at all places, and pairs of places."""
    kind, _, *told = atom
    places = range(len(row))
    if kind == "word":
        return bool([place for place in places if row[place] == told[0]])
    if kind == "starts":
        return bool([place for place in places if row[place] is not None and row[place][:len(told[0])] == told[0]])
    if kind == "row":
        return bool([place for place in places
                     if all(place + at < len(row) and row[place + at] == term for at, term in enumerate(told[0]))])
    return bool([1 for one in places for two in places
                 if one != two and abs(one - two) <= told[2] and row[one] == told[0] and row[two] == told[1]])


def plain_holds(question, head, body):
    kind, inner = question[0], question[1]
    if kind == "not":
        return not plain_holds(inner, head, body)
    if kind in ("all", "any"):
        found = [plain_holds(part, head, body) for part in inner]
        return False not in found if kind == "all" else True in found
    rows = {"head": [head], "body": [body], "any": [head, body]}[inner]
    return True in [plain_bears(question, row) for row in rows]


def drawn_row(draw, longest=8, terms=("cat", "red", "ca", "c", "cats", None, "x", "r~")):
    return tuple(draw.choice(terms) for _ in range(draw.randint(0, longest)))


class KindsTest(unittest.TestCase):
    def test_rows(self):
        for row in ((), (None,), ("cat", None, "~" * 210), ("a",) * 400, (None,) * 400, ("it's",), ("A",), ("(", "\\")):
            self.assertIs(is_row(row), True)
            self.assertIs(is_row(value=row), True)
        for value in NO_ROWS:
            self.assertIs(is_row(value), False, value)

    def test_atoms_at_their_bounds(self):
        for field in ("head", "body", "any"):
            for told in (("word", "a"), ("word", "a0" * 6), ("starts", "a"), ("starts", "abc012"), ("row", ("a", "a")),
                         ("row", ("0" * 12,) * 4), ("near", "a", "a", 1), ("near", "z9", "0", 6)):
                self.assertIs(is_question((told[0], field, *told[1:])), True)
        for value in NO_ATOMS:
            self.assertIs(is_question(value), False, value)

    def test_questions(self):
        for question in (CAT, ("not", CAT), ("all", (CAT,)), ("any", (CAT,) * 6), ("any", (("all", (CAT,) * 5), DOG))):
            self.assertIs(is_question(question), True)
            self.assertIs(is_question(value=question), True)
        for value in NO_QUESTIONS:
            self.assertIs(is_question(value), False, value)

    def test_four_levels_at_most(self):
        question = CAT
        for levels in range(1, 8):
            self.assertIs(is_question(question), levels <= 4)
            self.assertIs(is_question(("any", (CAT, question))), levels < 4)
            question = ("not", question)

    def test_twelve_nodes_and_six_atoms_at_most(self):
        negated = ("not", CAT)
        twelve = ("all", (("not", negated), negated, negated, negated, negated))
        self.assertEqual(counted(twelve), (12, 5))
        self.assertIs(is_question(twelve), True)
        self.assertIs(is_question(("all", (*twelve[1], DOG))), False)
        self.assertIs(is_question(("all", (*twelve[1][1:], negated, DOG))), True)
        self.assertIs(is_question(("all", (*twelve[1][1:], negated, negated))), False)
        six = ("any", (("all", (CAT,) * 3), ("all", (CAT,) * 3)))
        self.assertIs(is_question(six), True)
        self.assertIs(is_question(("any", (("all", (CAT,) * 3), ("all", (CAT,) * 4)))), False)

    def test_drawn_ones(self):
        draw = random.Random(20)
        told = []
        for _ in range(600):
            question = drawn_question(draw)
            nodes, many = counted(question)
            told.append(is_question(question))
            self.assertIs(told[-1], nodes <= 12 and many <= 6)
        self.assertIn(True, told)
        self.assertIn(False, told)


class TextTest(unittest.TestCase):
    def test_each_form(self):
        texts = {
            ("word", "head", "cat"): "word(head, cat)",
            ("starts", "body", "ca7"): "starts(body, ca7)",
            ("row", "any", ("red", "cat", "0")): "row(any, red cat 0)",
            ("near", "any", "all", "not", 6): "near(any, all, not, 6)",
            ("not", CAT): "not(word(any, cat))",
            ("all", (CAT,)): "all(word(any, cat))",
            ("any", (CAT, ("not", DOG), CAT)): "any(word(any, cat), not(word(head, dog)), word(any, cat))",
        }
        for question, text in texts.items():
            self.assertEqual(question_text(question), text)
            self.assertEqual(question_text(question=question), text)
            self.assertEqual(read_question(text), question)
            self.assertEqual(read_question(line=text), question)

    def test_the_longest_text(self):
        atom = ("row", "head", ("a" * 12,) * 4)
        question = ("not", ("any", (atom, ("not", atom), ("not", atom), ("not", atom), atom, atom)))
        self.assertGreater(len(question_text(question)), 300)
        self.assertEqual(read_question(question_text(question)), question)

    def test_drawn_questions_are_read_as_just_these(self):
        draw = random.Random(21)
        for question in drawn_questions(draw, 400):
            text = question_text(question)
            self.assertEqual(text, plain_text(question))
            self.assertTrue(is_written(text))
            self.assertEqual(read_question(text), question)

    def compare(self, line):
        """Compares the reading of a line with a pattern."""
        if is_written(line):
            question = read_question(line)
            self.assertTrue(is_question(question))
            self.assertEqual(plain_text(question), line)
            return True
        error = raised(read_question, line)
        self.assertEqual((type(error), error and error.given), (errors.InvalidText, line))
        return False

    def test_texts_with_one_sign_less_more_or_exchanged(self):
        draw = random.Random(22)
        told = []
        for question in drawn_questions(draw, 60):
            text = question_text(question)
            for at in range(len(text)):
                told.append(self.compare(text[:at] + text[at + 1:]))
                told.append(self.compare(text[:at] + draw.choice("a,( )07Z%") + text[at:]))
                told.append(self.compare(text[:at] + draw.choice("z,( )03R.") + text[at + 1:]))
                told.append(self.compare(text[:at] + text[at:at + 2][::-1] + text[at + 2:]))
        self.assertGreater(told.count(True), 100)
        self.assertGreater(told.count(False), 1000)

    def test_texts_of_questions_that_are_too_large(self):
        draw = random.Random(23)
        told = [self.compare(plain_text(drawn_question(draw, 5))) for _ in range(400)]
        self.assertIn(True, told)
        self.assertGreater(told.count(False), 50)

    def test_blanks_figures_and_brackets(self):
        for line in ("", " ", "(", ")", "()", "not()", "all()", "any()", "not(", "word(any, cat", "word(any, cat))", "word(any,cat)",
                     " word(any, cat)", "word(any, cat) ", "word( any, cat)", "word(any, cat )", "word (any, cat)",
                     "word(any,  cat)", "near(any, a, b, 02)", "near(any, a, b, 0)", "near(any, a, b, 7)", "near(any, a, b, 12)",
                     "near(any, a, b, +1)", "near(any, a, b, 1 )", "near(any, a, b, )", "near(any, a, b)", "near(any, a b, 1)",
                     "row(any, a)", "row(any, a  b)", "row(any,  a b)", "row(any, a b )", "row(any, a b c d e)", "row(any, a, b)",
                     "not(word(any, cat), word(any, cat))", "all(word(any, cat),word(any, cat))", "all(word(any, cat) , word(any, b))",
                     "all(word(any, cat), )", "all(, word(any, cat))", "all word(any, cat)", "WORD(any, cat)", "word(all, cat)",
                     "word(any, Cat)", "word(any, cat), word(any, cat)", "word(any)", "word(any, cat, cat)", "word(any, )",
                     "starts(any, abcdefg)", "word(any, abcdefghijklm)", "all(word), (x)", "not(all)(word(any, cat))", "near(any, a, b, ab)",
                     "all(" * 900, "not(" * 1000, "all(word(any, cat)" + ", word(any, cat)" * 200 + ")", "a" * 4000, ")" * 4000,
                     "((((", "not(word(any, cat)", "not(word(any, cat)]", "none(word(any, cat))", ", all(word(any, cat)"):
            self.assertFalse(self.compare(line), line)

    def test_wrong_lines(self):
        check_calls(self, read_question, ("line", "word(any, cat)", given(errors.InvalidText, *NO_STRINGS, "", CAT, "cat")))

    def test_wrong_questions(self):
        check_calls(self, question_text, ("question", CAT, given(errors.InvalidQuestion, *NO_QUESTIONS)))


class AtomsTest(unittest.TestCase):
    def test_by_first_standing_and_each_once(self):
        near, row = ("near", "any", "a", "b", 1), ("row", "head", ("b", "a"))
        question = ("any", (near, ("not", CAT), ("all", (row, CAT, near)), DOG))
        self.assertEqual(atoms(question), (near, CAT, row, DOG))
        # CAT stands with a not first, and open behind the row.
        self.assertEqual(open_atoms(question), (near, row, CAT, DOG))
        self.assertEqual(scored_terms(question), ("cat", "dog"))

    def test_a_double_not_is_not_open(self):
        self.assertEqual(open_atoms(("not", ("not", CAT))), ())
        self.assertEqual(scored_terms(("any", (("not", CAT), DOG))), ("dog",))
        self.assertEqual(atoms(("not", ("not", CAT))), (CAT,))

    def test_fields_part_atoms_but_not_scored_terms(self):
        question = ("all", (CAT, ("word", "head", "cat"), ("starts", "any", "c"), ("row", "any", ("b", "c")), DOG))
        self.assertEqual(len(atoms(question)), 5)
        self.assertEqual(scored_terms(question), ("cat", "dog"))
        self.assertEqual(scored_terms(("row", "any", ("b", "c"))), ())

    def test_drawn_questions(self):
        draw = random.Random(24)
        for question in drawn_questions(draw, 300):
            text, found = question_text(question), atoms(question)
            texts = [question_text(atom) for atom in found]
            self.assertEqual(texts, list(dict.fromkeys(re.findall(r"(?:word|starts|row|near)\([^)]*\)", text))))
            without = text
            while "not(" in without:
                begin = without.index("not(")
                without = without[:begin] + behind_bracket(without, begin)
            opened = list(dict.fromkeys(re.findall(r"(?:word|starts|row|near)\([^)]*\)", without)))
            self.assertEqual([question_text(atom) for atom in open_atoms(question)], opened)
            terms = {line.split(", ")[1][:-1] for line in opened if line.startswith("word(")}
            self.assertEqual(scored_terms(question), tuple(sorted(terms)))

    def test_wrong(self):
        for call in (atoms, open_atoms, scored_terms):
            check_calls(self, call, ("question", CAT, given(errors.InvalidQuestion, *NO_QUESTIONS)))


def behind_bracket(text, begin):
    """What stands behind the closing bracket that belongs to the first opening one from an index on."""
    depth = 0
    for at in range(begin, len(text)):
        depth += (text[at] == "(") - (text[at] == ")")
        if text[at] == ")" and depth == 0:
            return text[at + 1:]
    raise AssertionError(text)


class HoldsTest(unittest.TestCase):
    def test_words_and_begins(self):
        row = ("cats", None, "red")
        self.assertEqual([holds(("word", "head", term), row, ()) for term in ("cats", "cat", "red")], [True, False, True])
        self.assertEqual([holds(("starts", "head", term), row, ()) for term in ("cat", "cats", "catsx", "s")],
                         [True, True, False, False])

    def test_fields(self):
        for kind, told in (("word", ("cat",)), ("starts", ("ca",)), ("row", (("cat", "red"),)), ("near", ("red", "cat", 1))):
            for field, expected in (("head", [True, False]), ("body", [False, True]), ("any", [True, True])):
                atom = (kind, field, *told)
                self.assertEqual([holds(atom, ("cat", "red"), ()), holds(atom, (), ("cat", "red"))], expected)
        # Half in the head and half in the body is in none of both.
        self.assertFalse(holds(("row", "any", ("cat", "red")), ("cat",), ("red",)))
        self.assertFalse(holds(("near", "any", "cat", "red", 6), ("cat",), ("red",)))

    def test_rows_one_behind_the_other(self):
        atom = ("row", "body", ("a", "a", "b"))
        for row, expected in ((("a", "a", "a", "b"), True), (("a", "a", None, "b"), False), (("a", "b", "a"), False),
                              (("b", "a", "a", "b"), True), (("a", "a"), False), ((), False)):
            self.assertIs(holds(atom, (), row), expected)

    def test_near_at_each_bound(self):
        for most in range(1, 7):
            for away in range(1, 9):
                row = ("x",) + ("a",) + (None,) * (away - 1) + ("b", "x")
                for first, second in (("a", "b"), ("b", "a")):
                    self.assertIs(holds(("near", "head", first, second, most), row, ()), away <= most)
        self.assertFalse(holds(("near", "head", "a", "a", 6), ("a", "b"), ()))
        self.assertTrue(holds(("near", "head", "a", "a", 1), ("b", "a", "a"), ()))

    def test_not_all_any(self):
        self.assertTrue(holds(("all", (CAT, ("not", DOG))), (), ("cat",)))
        self.assertFalse(holds(("all", (CAT, ("not", DOG))), ("dog",), ("cat",)))
        self.assertTrue(holds(("any", (DOG, CAT)), ("dog",), ()))
        self.assertFalse(holds(("any", (DOG, CAT)), (), ("dog",)))

    def test_drawn_questions_and_rows(self):
        draw = random.Random(25)
        told = []
        for question in drawn_questions(draw, 400):
            for _ in range(10):
                head, body = drawn_row(draw), drawn_row(draw)
                told.append(plain_holds(question, head, body))
                self.assertIs(holds(question, head, body), told[-1])
        self.assertGreater(told.count(True), 500)
        self.assertGreater(told.count(False), 500)
        self.assertIs(holds(body=("cat",), head=(), question=CAT), True)

    def test_wrong(self):
        no_rows = given(errors.InvalidRow, *NO_ROWS)
        check_calls(self, holds, ("question", CAT, given(errors.InvalidQuestion, *NO_QUESTIONS)),
                    ("head", ("a" * 210,) * 400, no_rows), ("body", (None,) * 400, no_rows))


if __name__ == "__main__":
    unittest.main()

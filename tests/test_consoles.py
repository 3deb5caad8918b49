"""Consoles: the section of the consoles, with point 21 for the texts of questions."""

import random
import unittest

from plainscan import errors
from plainscan.consoles import Console
from plainscan.desks import Desk
from plainscan.questions import question_text
from plainscan.ranking import Rank
from tests.books import Model, drawn_turn, settle, shown
from tests.calls import NO_OBJECTS, NO_STRINGS, check_calls, fresh, given, told_by
from tests.test_desks import all_of, made
from tests.test_documents import DOC
from tests.test_questions import CAT, drawn_questions
from tests.test_ranking import GOOD, drawn_parts
from tests.test_scans import PLAIN, RANK, TRACED, drawn_texts, traceless

CAT_TEXT = "word(any, cat)"
NO_WRITTEN = ("", "-", "01", "00", "+1", "-1", "1.0", "1e1", "x", "1x", "x1", "0x1", "1_0", "--", "1,", "None", "True", "\u00b2", "\u0661")
NO_ASKER_WORDS = ("", "g", "ba", "aa", "A", "--", "a,b", "''", "1", "*")
NO_LABEL_WORDS = ("", "b,a", "a,a", "a,", ",a", ",", "A", "a1", "--", "-,a", "a,b,c,d,e", "abcdefghi", "1", "()")
# For each form a right line; the words behind the first one, each with its kind.
FORMS = {
    "put": ("4 20 - | Dogs | A dog", "nnl."), "gone": ("4", "n"), "label": ("4 pay,plan", "nl"), "undo": ("", ""), "place": ("1 0", "nn"),
    "ship": ("0 0 5", "nnn"), "clean": ("0 0 3", "nnn"), "lose": ("0", "n"), "back": ("2", "n"), "move": ("0 0 1", "nnn"), "merge": ("0 0", "nn"),
    "drop": ("0", "n"), "ask": ("a 5 " + CAT_TEXT, "an."), "begun": ("a 5 c", "anw"), "neighbours": ("a 5 ct", "anw"),
    "page": ("a 3 0 1 " + CAT_TEXT, "annn."), "why": ("a 4 " + CAT_TEXT, "an."), "days": ("a 5 " + CAT_TEXT, "an."),
    "terms": ("a any 5 " + CAT_TEXT, "awn."), "watch": ("a " + CAT_TEXT, "a."), "tells": ("0", "n"), "version": ("", ""), "fence": ("a", "a"),
    "copies": ("", ""),
}
DEEDS = ("put", "gone", "label", "undo", "place", "ship", "clean", "lose", "back", "move", "merge", "drop")


def right_line(word):
    told = FORMS[word][0]
    return f"{word} {told}" if told else word


def console():
    return Console(made(), RANK)


def all_told(one):
    return all_of(one.desk), one.rank.parts


def pairs(rows):
    return ", ".join(f"{first} {second}" for first, second in rows) or "none"


def counted(told):
    return f"{told[0]}: {pairs(told[1])}"


class LineTest(unittest.TestCase):
    def refused(self, line):
        with self.subTest(line=line):
            self.assertEqual(told_by(fresh(console, "say", all_told), line), (errors.InvalidLine, {"given": line}))

    def test_each_form_has_a_right_line(self):
        for word in FORMS:
            line = right_line(word)
            answer = console().say(line)
            self.assertIs(type(answer), str)
            self.assertEqual(answer == "done", word in DEEDS, line)
            self.assertEqual(console().say(line=line), answer)

    def test_what_is_no_string(self):
        check_calls(self, fresh(console, "say", all_told), ("line", "version", given(errors.InvalidLine, *NO_OBJECTS, *NO_STRINGS, ["version"])))

    def test_spaces_more_or_less(self):
        for word in FORMS:
            line = right_line(word)
            kinds = FORMS[word][1]
            for other in (" " + line, line.replace(word, word + "  ", 1) if kinds else line + " ", word.upper() + line[len(word):], word + "s",
                          word[:-1] + line[len(word):], "x " + line, "\t" + line, line.replace(word + " ", word + "\t", 1) if kinds else line + "\t"):
                self.refused(other)
            if kinds and kinds[-1] != ".":
                self.refused(line + " ")
                self.refused(line + " 1")
            if kinds:
                self.refused(word)
                self.refused(word + " ")
            else:
                self.refused(line + " 1")
            words = line.split(" ")
            # Ahead of what is free two spaces stand nowhere.
            for at in range(1, len(kinds) if kinds[-1:] == "." else len(words)):
                self.refused(" ".join(words[:at]) + "  " + " ".join(words[at:]))

    def test_words_that_are_none_of_their_kind(self):
        wrongs = {"n": NO_WRITTEN, "a": NO_ASKER_WORDS, "l": NO_LABEL_WORDS, "w": ("",)}
        for word, (_, kinds) in FORMS.items():
            words = right_line(word).split(" ")
            for at, kind in enumerate(kinds, 1):
                for other in wrongs.get(kind, ()):
                    self.refused(" ".join([*words[:at], other, *words[at + 1:]]))

    def test_missing_words(self):
        for word, (_, kinds) in FORMS.items():
            words = right_line(word).split(" ")
            for many in range(1, len(kinds) + (kinds[-1:] != ".")):
                self.refused(" ".join(words[:many]))
            if kinds[-1:] == ".":
                self.refused(" ".join(words[:len(kinds)]))
                self.refused(" ".join(words[:len(kinds)]) + " ")

    def test_put(self):
        told = {
            "put 4 20 - | Dogs | A dog": ("Dogs", "A dog"), "put 4 20 - |  | ": ("", ""), "put 4 20 - |  | A": ("", "A"), "put 4 20 - | A | ": ("A", ""),
            "put 4 20 - | a | b | c": ("a", "b | c"), "put 4 20 - | | | b": ("|", "b"), "put 4 20 - |  |  | ": ("", " | "), "put 4 20 - | a | | b": ("a", "| b"),
            "put 4 20 - |  a  |  b ": (" a ", " b "), "put 4 20 - | a|b | c|d": ("a|b", "c|d"), "put 4 20 - | put 4 | - |": ("put 4", "- |"),
        }
        for line, texts in told.items():
            one = console()
            self.assertEqual(one.say(line), "done", line)
            self.assertEqual(one.desk.log.changes[-1], ("put", (4, 20, (), *texts)), line)
        for word, labels in (("a", ("a",)), ("a,b,c,d", ("a", "b", "c", "d")), ("abcdefgh", ("abcdefgh",))):
            one = console()
            one.say(f"put 999 9999 {word} | x | y")
            self.assertEqual(one.desk.log.changes[-1][1][2], labels)
        for line in ("put 4 20 - | a", "put 4 20 - | a |", "put 4 20 - | a| b", "put 4 20 - |a | b", "put 4 20 - a | b", "put 4 20 | a | b", "put 4 20 - |",
                     "put 4 20 - | ", "put 4 20 - | |", "put 4 20 - | | ", "put 4 20 -| a | b", "put 4 20 -  | a | b", "put 4 20 - || a | b",
                     "put 4 20 - -| a | b", "put 4 20 pay plan | a | b", "put 4 | a | b", "put | a | b", "put 4 20 - \t| a | b"):
            self.refused(line)

    def test_places_of_pages(self):
        self.assertEqual(console().say("page a - - 1 " + CAT_TEXT), "3 1 end: 4 3")
        for line in ("page a - 0 1 ", "page a 3 - 1 ", "page a -- - 1 ", "page a - 1 ", "page a 3 0 - ", "page a 3 01 1 ", "page a -3 0 1 "):
            self.refused(line + CAT_TEXT)

    def test_free_words(self):
        for line, error in (("begun a 5 %", errors.InvalidTerm), ("neighbours a 5 \x7f", errors.InvalidTerm), ("terms a Any 5 " + CAT_TEXT, errors.InvalidField),
                            ("terms a - 5 " + CAT_TEXT, errors.InvalidField), ("begun a 5 \u00e9", errors.InvalidTerm)):
            self.assertIs(told_by(console().say, line)[0], error)
        self.assertEqual(console().say("begun a 5 -"), "3: none")
        self.assertEqual(console().say("neighbours - 5 |"), "2: none")
        for line in ("begun a 5 c d", "neighbours a 5 c d", "begun a 5 ", "terms a  5 " + CAT_TEXT, "terms a any any 5 " + CAT_TEXT):
            self.refused(line)


class ErrorTest(unittest.TestCase):
    def test_read_question_goes_first(self):
        for line in ("ask a 99 ", "page a 9 9 99 ", "page a - - 99 ", "why a 0 ", "days a 0 ", "terms a xx 99 ", "watch a "):
            for text in (" " + CAT_TEXT, "cat", CAT_TEXT + " ", "word(any,cat)", " ", "not()", "all(word(any, cat)", "-", "word(any, cat), word(any, cat)"):
                told = told_by(fresh(console, "say", all_told), line + text)
                self.assertEqual(told, (errors.InvalidText, {"given": text}), line + text)

    def test_errors_of_what_is_called(self):
        told = {
            "put 0 20 - | a | b": (errors.InvalidChange, ("put", (0, 20, (), "a", "b"))), "put 4 10000 a | % | ": (errors.InvalidChange, ("put", (4, 10000, ("a",), "%", ""))),
            "gone 9": (errors.UnknownKey, 9), "gone 0": (errors.InvalidChange, ("gone", 0)), "label 7 -": (errors.UnknownKey, 7),
            "label 1000 a,b": (errors.InvalidChange, ("label", 1000, ("a", "b"))), "place 3 0": (errors.InvalidHouse, 3), "place 0 2": (errors.InvalidLot, 2),
            "place 0 0": (errors.Present, 0), "place 2 0": (errors.Lost, 2), "ship 0 0 4": (errors.InvalidNumber, 4), "ship 0 0 6": (errors.InvalidNumber, 6),
            "ship 1 0 5": (errors.Absent, 1), "clean 0 0 0": (errors.InvalidNumber, 0), "clean 0 0 6": (errors.InvalidNumber, 6), "lose 2": (errors.Lost, 2),
            "lose 3": (errors.InvalidHouse, 3), "back 0": (errors.Live, 0), "move 0 1 1": (errors.Present, 1), "move 0 0 2": (errors.Lost, 2),
            "move 0 0 9": (errors.InvalidHouse, 9), "merge 1 0": (errors.Absent, 1), "merge 2 0": (errors.Lost, 2), "drop 1": (errors.UnknownSearch, 1),
            "tells 7": (errors.UnknownSearch, 7), "ask a 0 " + CAT_TEXT: (errors.InvalidNumber, 0), "ask a 41 " + CAT_TEXT: (errors.InvalidNumber, 41),
            "begun a 41 c": (errors.InvalidNumber, 41), "neighbours a 0 c": (errors.InvalidNumber, 0), "why a 1000 " + CAT_TEXT: (errors.InvalidNumber, 1000),
            "days a 10001 " + CAT_TEXT: (errors.InvalidNumber, 10001), "terms a no 5 " + CAT_TEXT: (errors.InvalidField, "no"),
            "terms a any 41 " + CAT_TEXT: (errors.InvalidNumber, 41), "page a 2 0 1 " + CAT_TEXT: (errors.Passed, 2),
            "page a " + "9" * 60 + " 0 1 " + CAT_TEXT: (errors.Passed, 10 ** 60 - 1), "gone " + "9" * 60: (errors.InvalidChange, ("gone", 10 ** 60 - 1)),
        }
        for line, (error, value) in told.items():
            self.assertEqual(told_by(fresh(console, "say", all_told), line), (error, {"given": value}), line)

    def test_errors_that_tell_nothing(self):
        for line in ("ask a 5 ", "page a - - 5 ", "page a 3 0 5 "):
            self.assertEqual(told_by(Console(made(), TRACED).say, line + CAT_TEXT), (errors.Trace, {}))
        one = console()
        one.say("lose 0")
        for line in ("ask a 5 " + CAT_TEXT, "page a - - 5 " + CAT_TEXT, "begun a 5 c", "neighbours a 5 c", "why a 5 " + CAT_TEXT, "days a 5 " + CAT_TEXT,
                     "terms a any 5 " + CAT_TEXT, "watch a " + CAT_TEXT):
            self.assertEqual(told_by(one.say, line), (errors.Unserved, {}))
        for _ in range(5):
            one.say("undo")
        self.assertEqual(told_by(one.say, "undo"), (errors.NothingToUndo, {}))

    def test_wrong_desks_and_ranks(self):
        desk = made()
        check_calls(self, Console, ("desk", desk, given(errors.NotADesk, *NO_OBJECTS, RANK, Desk)), ("rank", RANK, given(errors.NotARank, *NO_OBJECTS, GOOD, desk)))
        one = Console(rank=TRACED, desk=desk)
        self.assertIs(one.desk, desk)
        self.assertIs(one.rank, TRACED)
        self.assertTrue(one and one == one and one != Console(desk, TRACED) and not one == Console(desk, TRACED))


class AnswerTest(unittest.TestCase):
    """Consoles beside plain books: each line with the answer that the books tell."""
    def line_of(self, deed, *args):
        """The line for a deed, None if there is none."""
        if deed == "put":
            key, day, labels, head, body = args[0]
            return f"put {key} {day} {','.join(labels) or '-'} | {head} | {body}"
        numbers = args[:1] if deed == "label" else args
        if deed == "policy" or not all(type(arg) is int and arg >= 0 for arg in numbers):
            return None
        return " ".join([deed, *map(str, numbers), *(",".join(labels) or "-" for labels in args[len(numbers):])])

    def check(self, one, line, told, text):
        """Checks an answer, told what the books tell and how it is written."""
        wrong = type(told) is tuple and type(told[0]) is type
        self.assertEqual(told_by(one.say, line), told if wrong else text(told), line)

    def ask(self, draw, one, model):
        asker, question, many = draw.choice(("", "a", "ab")), draw.choice(self.questions), draw.choice((1, 2, 40))
        who, written, parts = asker or "-", question_text(question), one.rank.parts
        number, key, field, start = draw.choice((*model.searches, 0, 9)), draw.randint(1, 6), draw.choice(("head", "body", "any")), draw.choice(("c", "ct", "rd"))
        place = (draw.choice((*model.held(asker), 0)), draw.randint(0, 2))

        def page(told):
            return f"{told[0][0]} {told[0][1]} {'more' if told[2] else 'end'}: {pairs(told[1])}"
        told = {
            "ask": (f"{who} {many} {written}", lambda: model.ask(asker, question, parts, many), counted),
            "page": (f"{who} - - {many} {written}", lambda: model.page(asker, question, parts, many), page),
            "page ": (f"{who} {place[0]} {place[1]} {many} {written}", lambda: model.page(asker, question, parts, many, place), page),
            "begun": (f"{who} {many} {start}", lambda: model.begun(asker, start, many), counted),
            "neighbours": (f"{who} {many} {start}", lambda: model.neighbours(asker, start, many), counted),
            "why": (f"{who} {key} {written}", lambda: model.why(asker, question, key),
                    lambda answer: f"{answer[0]}: " + ("none" if answer[1] is None else " | ".join(answer[1]))),
            "days": (f"{who} {many} {written}", lambda: model.tally_days(asker, question, many), counted),
            "terms": (f"{who} {field} {many} {written}", lambda: model.tally_terms(asker, question, field, many), counted),
            "watch": (f"{who} {written}", lambda: model.watch(asker, question), str),
            "tells": (f"{number}", lambda: model.tells(number),
                      lambda answer: f"{answer[0]}: " + (", ".join(f"{count} {word} {key}" for _, count, word, key in answer[1]) or "none")),
            "fence": (who, lambda: model.fence(asker), str), "version": ("", lambda: len(model.changes), str),
            "copies": ("", lambda: 0, lambda _: ", ".join("{} {} {} {}".format(*numbers) for numbers in model.fleet.copies()) or "none"),
        }
        word = draw.choice(list(told))
        line, answer, text = told[word]
        self.check(one, f"{word.strip()} {line}".strip() if word in ("version", "copies") else f"{word.strip()} {line}", answer(), text)

    def test_drawn_lines(self):
        draw = random.Random(49)
        for _ in range(120):
            lots, houses, size = draw.randint(1, 3), draw.randint(1, 4), draw.choice((0, 2, 20))
            desk, model = Desk(PLAIN, lots=lots, houses=houses, cache=size), Model(PLAIN, lots, houses, size)
            self.questions = drawn_questions(draw, 3)
            settle(desk, model, draw, drawn_texts, draw.choice((0, 3, 10)))
            one = Console(desk, Rank(*draw.choice((drawn_parts(draw), traceless(drawn_parts(draw)), RANK.parts))))
            for _ in range(40):
                deed = drawn_turn(draw, model, drawn_texts)
                line = self.line_of(*deed)
                if line is not None and draw.random() < 0.5:
                    self.check(one, line, model.do(*deed), lambda _: "done")
                else:
                    self.ask(draw, one, model)
                self.assertEqual(shown(desk, lots, houses), model.shown())

    def test_two_consoles_of_one_desk(self):
        desk = Desk(PLAIN)
        one, two = Console(desk, RANK), Console(desk, Rank((0,), (0,), (0,), 0, "key"))
        self.assertEqual([one.say("put 4 0 - | Cats | "), two.say("place 0 0"), one.say("ship 0 0 1")], ["done"] * 3)
        self.assertEqual([one.say("ask - 5 " + CAT_TEXT), two.say("ask - 5 " + CAT_TEXT), two.say("version")], ["1: 4 15", "1: 4 0", "1"])
        desk.put((9, *DOC[1:]))
        self.assertEqual((one.say("version"), two.say("copies"), desk.ask("", CAT, RANK, 5)), ("2", "0 0 0 1", (1, ((4, 15),))))


if __name__ == "__main__":
    unittest.main()

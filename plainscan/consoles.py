"""Consoles: a desk led by lines."""

from plainscan.desks import Desk
from plainscan.errors import InvalidLine, NotADesk
from plainscan.questions import read_question
from plainscan.ranking import need_rank
from plainscan.rights import is_asker, is_labels

FIGURES = "0123456789"
NOTHING = "-"
DONE = "done"
NONE = "none"
BAR = " | "
DEEDS = ("put", "gone", "label", "undo", "place", "ship", "clean", "lose", "back", "move", "merge", "drop")

# What stands behind the first word of a line. The kinds rest and texts take all that is left of the line.
FORMS = {
    "put": ("number", "number", "labels", "texts"),
    "gone": ("number",),
    "label": ("number", "labels"),
    "undo": (),
    "place": ("number", "number"),
    "ship": ("number", "number", "number"),
    "clean": ("number", "number", "number"),
    "lose": ("number",),
    "back": ("number",),
    "move": ("number", "number", "number"),
    "merge": ("number", "number"),
    "drop": ("number",),
    "ask": ("asker", "number", "rest"),
    "begun": ("asker", "number", "word"),
    "neighbours": ("asker", "number", "word"),
    "page": ("asker", "mark", "mark", "number", "rest"),
    "why": ("asker", "number", "rest"),
    "days": ("asker", "number", "rest"),
    "terms": ("asker", "word", "number", "rest"),
    "watch": ("asker", "rest"),
    "tells": ("number",),
    "version": (),
    "fence": ("asker",),
    "copies": (),
}


def number_in(word):
    """The number that a word writes, None if it writes none."""
    if word == "" or word.strip(FIGURES) != "" or (word[0] == "0" and word != "0"):
        return None
    return int(word)


def mark_in(word):
    """A number, or the sign for nothing itself."""
    return word if word == NOTHING else number_in(word)


def labels_in(word):
    """The labels that a word writes, None if it writes none."""
    labels = () if word == NOTHING else tuple(word.split(","))
    return labels if is_labels(labels) else None


def asker_in(word):
    """The asker that a word writes, None if it writes none."""
    if word == NOTHING:
        return ""
    return word if word != "" and is_asker(word) else None


def word_in(word):
    """A word itself, None for what is none."""
    return None if word == "" or " " in word else word


def rest_in(word):
    """What is left of a line, None if that is nothing."""
    return None if word == "" else word


def texts_in(word):
    """The head and the body that are left of a line behind a bar, None if there is no bar ahead of each."""
    head, bar, body = word[2:].partition(BAR)
    return (head, body) if word.startswith("| ") and bar == BAR else None


READERS = {
    "number": number_in,
    "mark": mark_in,
    "labels": labels_in,
    "asker": asker_in,
    "word": word_in,
    "rest": rest_in,
    "texts": texts_in,
}


def read_line(line):
    """The list of what is told behind the first word of a line, None for what is no line."""
    if type(line) is not str:
        return None
    word, _, _ = line.partition(" ")
    if word not in FORMS:
        return None
    kinds = FORMS[word]
    words = line.split(" ", len(kinds))
    if len(words) != len(kinds) + 1 or words[0] != word:
        return None
    told = []
    for kind, written in zip(kinds, words[1:]):
        reader = READERS[kind]
        told.append(reader(written))
    if None in told or (word == "page" and (told[1] == NOTHING) != (told[2] == NOTHING)):
        return None
    return told


def do_deed(desk, word, told):
    """Does what a line tells that is answered by done."""
    if word == "put":
        key, day, labels, texts = told
        desk.put((key, day, labels, *texts))
    elif word == "gone":
        desk.gone(*told)
    elif word == "label":
        desk.label(*told)
    elif word == "undo":
        desk.undo()
    elif word == "place":
        desk.place(*told)
    elif word == "ship":
        desk.ship(*told)
    elif word == "clean":
        desk.clean(*told)
    elif word == "lose":
        desk.lose(*told)
    elif word == "back":
        desk.back(*told)
    elif word == "move":
        desk.move(*told)
    elif word == "merge":
        desk.merge(*told)
    else:
        desk.drop(*told)


def rows_text(rows):
    """Tuples as texts, with spaces within and commas between, or none."""
    if not rows:
        return NONE
    return ", ".join([" ".join([str(one) for one in row]) for row in rows])


def counted_text(told):
    """A pair of a count and of such tuples as a text."""
    count, rows = told
    return f"{count}: {rows_text(rows)}"


def found_text(desk, rank, word, told):
    """The answer to a line that ends with a question."""
    *words, written = told
    question = read_question(written)
    if word == "page":
        return page_text(desk, rank, question, words)
    if word == "terms":
        asker, field, many = words
        return counted_text(desk.tally_terms(asker, question, field, many))
    asker, *more = words
    if word == "watch":
        return str(desk.watch(asker, question))
    number = more[0]
    if word == "ask":
        return counted_text(desk.ask(asker, question, rank, number))
    if word == "days":
        return counted_text(desk.tally_days(asker, question, number))
    count, excerpts = desk.why(asker, question, number)
    shown = NONE if excerpts is None else " | ".join(excerpts)
    return f"{count}: {shown}"


def page_text(desk, rank, question, words):
    """The answer to a line page."""
    asker, count, at, many = words
    place = None if count == NOTHING else (count, at)
    behind, rows, is_more = desk.page(asker, question, rank, many, place=place)
    word = "more" if is_more else "end"
    return f"{behind[0]} {behind[1]} {word}: {rows_text(rows)}"


def other_text(desk, word, told):
    """The answer to a line that changes nothing and has no question."""
    if word == "begun":
        asker, many, start = told
        return counted_text(desk.begun(asker, start, many))
    if word == "neighbours":
        asker, many, term = told
        return counted_text(desk.neighbours(asker, term, many))
    if word == "tells":
        count, tells = desk.tells(*told)
        return counted_text((count, [tell[1:] for tell in tells]))
    if word == "version":
        return str(len(desk))
    if word == "fence":
        return str(desk.log.fence(*told))
    return rows_text(desk.copies)


class Console:
    """A desk and a rank, led by lines."""
    def __init__(self, desk, rank):
        if not isinstance(desk, Desk):
            raise NotADesk(desk)
        need_rank(rank)
        self.desk = desk
        self.rank = rank

    def say(self, line):
        """Does a line, and returns its answer."""
        told = read_line(line)
        if told is None:
            raise InvalidLine(line)
        word, _, _ = line.partition(" ")
        if word in DEEDS:
            do_deed(self.desk, word, told)
            return DONE
        if FORMS[word][-1:] == ("rest",):
            return found_text(self.desk, self.rank, word, told)
        return other_text(self.desk, word, told)

"""Rows, atoms and questions: what is one, how it is written, and when it holds."""

from plainscan.errors import InvalidQuestion, InvalidRow, InvalidTerm, InvalidText
from plainscan.values import SIGNS, SMALL_OR_FIGURES, is_made_of, is_number, is_one_of, is_tuple_of

FIELDS = ("head", "body", "any")
LONGEST_TERM = 210
LONGEST_ROW = 400
LONGEST_NAMED = 12
LONGEST_PREFIX = 6
MOST_TERMS = 4
FARTHEST = 6
MOST_INSIDE = 6
MOST_NODES = 12
MOST_LEVELS = 4
MOST_ATOMS = 6


def is_term(value):
    """Whether a value is a term of a row."""
    return is_made_of(value, SIGNS, 1, LONGEST_TERM) and " " not in value


def is_row(value):
    """Whether a value is a row."""
    return is_tuple_of(value, 0, LONGEST_ROW) and all([term is None or is_term(term) for term in value])


def is_named(value):
    """Whether a value is a named term."""
    return is_made_of(value, SMALL_OR_FIGURES, 1, LONGEST_NAMED)


def is_field(value):
    """Whether a value is a field."""
    return is_one_of(value, FIELDS)


def is_atom(value):
    """Whether a value is an atom."""
    if not is_tuple_of(value, 3, 5) or not is_field(value[1]):
        return False
    kind, _, *told = value
    if is_one_of(kind, ("word",)):
        return len(told) == 1 and is_named(told[0])
    if is_one_of(kind, ("starts",)):
        return len(told) == 1 and is_made_of(told[0], SMALL_OR_FIGURES, 1, LONGEST_PREFIX)
    if is_one_of(kind, ("row",)):
        return len(told) == 1 and is_tuple_of(told[0], 2, MOST_TERMS) and all([is_named(term) for term in told[0]])
    if is_one_of(kind, ("near",)):
        return len(told) == 3 and is_named(told[0]) and is_named(told[1]) and is_number(told[2], 1, FARTHEST)
    return False


def questions_inside(value):
    """The questions inside a pair that is no atom, None if nothing can be."""
    if is_tuple_of(value, 2, 2):
        if is_one_of(value[0], ("not",)):
            return (value[1],)
        if is_one_of(value[0], ("all", "any")) and is_tuple_of(value[1], 1, MOST_INSIDE):
            return value[1]
    return None


def sizes(value, levels):
    """The pair of how many nodes and atoms a question with so many levels at most has, None for what is none."""
    if levels == 0:
        return None
    if is_atom(value):
        return (1, 1)
    inside = questions_inside(value)
    if inside is None:
        return None
    many_nodes, many_atoms = 1, 0
    for question in inside:
        found = sizes(question, levels - 1)
        if found is None:
            return None
        many_nodes += found[0]
        many_atoms += found[1]
    return (many_nodes, many_atoms)


def is_question(value):
    """Whether a value is a question."""
    found = sizes(value, MOST_LEVELS)
    return found is not None and found[0] <= MOST_NODES and found[1] <= MOST_ATOMS


def need_question(question):
    """An error for what is no question."""
    if not is_question(question):
        raise InvalidQuestion(question)


def need_row(row):
    """An error for what is no row."""
    if not is_row(row):
        raise InvalidRow(row)


def need_term(term):
    """An error for what is no term."""
    if not is_term(term):
        raise InvalidTerm(term)


def question_text(question):
    """The text of a question."""
    need_question(question)
    return text_of(question)


def text_of(question):
    """The same, of what surely is a question."""
    kind, *told = question
    if kind == "not":
        told = [text_of(told[0])]
    elif kind in ("all", "any"):
        told = [text_of(part) for part in told[0]]
    elif kind == "row":
        told = [told[0], " ".join(told[1])]
    written = ", ".join([str(one) for one in told])
    return f"{kind}({written})"


def read_question(line):
    """The question with a text."""
    if type(line) is not str:
        raise InvalidText(line)
    question, _ = read_at(line, 0, MOST_LEVELS)
    # What is read too freely shows itself here: its own text is another one.
    if not is_question(question) or text_of(question) != line:
        raise InvalidText(line)
    return question


def read_at(line, at, levels):
    """The pair of what is written from an index on, with so many levels at most, and of the index behind it.

    It is None, or what is no question, if no question is written there.
    """
    opening = line.find("(", at)
    closing = line.find(")", opening + 1)
    if opening < 0 or closing < 0 or levels == 0:
        return (None, at)
    kind = line[at:opening]
    if kind not in ("not", "all", "any"):
        return (atom_written(kind, line[opening + 1:closing].split(", ")), closing + 1)
    parts, behind = [], opening
    while parts == [] or line.startswith(", ", behind):
        # A comma and a space stand between two of them.
        part, behind = read_at(line, behind + (2 if parts else 1), levels - 1)
        if part is None:
            return (None, at)
        parts.append(part)
    told = parts[0] if kind == "not" else tuple(parts)
    return ((kind, told), behind + 1)


def atom_written(kind, words):
    """The atom of a kind that is written with some words, or None, or what is no atom."""
    if kind == "row" and len(words) == 2:
        return (kind, words[0], tuple(words[1].split(" ")))
    if kind == "near" and len(words) == 4 and is_made_of(words[3], "123456", 1, 1):
        return (kind, words[0], words[1], words[2], int(words[3]))
    return (kind, *words)


def all_atoms(question):
    """The atoms of a question as they stand in it, each as often as it stands."""
    kind = question[0]
    if kind == "not":
        return all_atoms(question[1])
    if kind in ("all", "any"):
        return [atom for part in question[1] for atom in all_atoms(part)]
    return [question]


def all_open(question):
    """The same of those with no not around them."""
    kind = question[0]
    if kind == "not":
        return []
    if kind in ("all", "any"):
        return [atom for part in question[1] for atom in all_open(part)]
    return [question]


def unlike(things):
    """The tuple of the unlike ones of some things, by their first standing."""
    return tuple([thing for at, thing in enumerate(things) if thing not in things[:at]])


def atoms(question):
    """The tuple of the unlike atoms of a question, by their first standing."""
    need_question(question)
    return unlike(all_atoms(question))


def open_atoms(question):
    """The tuple of the open atoms of a question, by their first standing with no not around."""
    need_question(question)
    return unlike(all_open(question))


def scored_terms(question):
    """The ascending tuple of the terms of the open word atoms."""
    need_question(question)
    return terms_scored(question)


def terms_scored(question):
    """The same, of what surely is a question."""
    return tuple(sorted({atom[2] for atom in all_open(question) if atom[0] == "word"}))


def holds(question, head, body):
    """Whether a question holds for a pair of rows."""
    need_question(question)
    need_row(head)
    need_row(body)
    return holds_for(question, head, body)


def holds_for(question, head, body):
    """The same, of what surely is a question and rows."""
    return judged(question, {atom: atom_holds(atom, head, body) for atom in all_atoms(question)})


def judged(question, truths):
    """Whether a question holds, told which of its atoms do."""
    kind = question[0]
    if kind == "not":
        return not judged(question[1], truths)
    if kind == "all":
        return all([judged(part, truths) for part in question[1]])
    if kind == "any":
        return any([judged(part, truths) for part in question[1]])
    return truths[question]


def atom_holds(atom, head, body):
    """Whether an atom holds for a pair of rows."""
    field = atom[1]
    return (field != "body" and bears(head, atom)) or (field != "head" and bears(body, atom))


def bears(row, atom):
    """Whether one row has what an atom asks for, whatever the atom's field."""
    kind, _, told, *more = atom
    if kind == "word":
        return told in row
    if kind == "starts":
        return any([term is not None and term.startswith(told) for term in row])
    if kind == "row":
        return any([row[at:at + len(told)] == told for at in range(len(row))])
    other, most = more
    return any([other in beside(row, at, most) for at, term in enumerate(row) if term == told])


def beside(row, at, most):
    """What stands in a row at most so many places away from a place, without the place itself."""
    return row[max(0, at - most):at] + row[at + 1:at + 1 + most]

"""Hints: the terms of row documents that begin in some way, or are like a string but for one sign."""

from plainscan.errors import InvalidTerm
from plainscan.questions import need_term
from plainscan.ranking import need_documents
from plainscan.spreads import all_spreads, by_number
from plainscan.values import MOST_SIGNS, SIGNS, is_made_of, need_many


def need_start(start):
    """An error for what is no begin of terms."""
    if not is_made_of(start, SIGNS, 0, MOST_SIGNS) or " " in start:
        raise InvalidTerm(start)


def begun(documents, start, many):
    """The first many pairs (TERM, SPREAD) of the terms that begin with a string."""
    need_documents(documents)
    need_start(start)
    need_many(many)
    spreads = all_spreads(documents, "any")
    return by_number({term: spread for term, spread in spreads.items() if term.startswith(start)})[:many]


def neighbours(documents, term, many):
    """The first many pairs (TERM, SPREAD) of the neighbours of a term."""
    need_documents(documents)
    need_term(term)
    need_many(many)
    spreads = all_spreads(documents, "any")
    return by_number({other: spread for other, spread in spreads.items() if is_neighbour(term, other)})[:many]


def is_neighbour(term, other):
    """Whether one term comes of the other by one sign more, less or exchanged, or two neighbouring ones exchanged."""
    if len(term) > len(other):
        return is_neighbour(other, term)
    at = alike_until(term, other)
    if len(term) < len(other):
        return term[at:] == other[at + 1:]
    if term[at + 1:] == other[at + 1:]:
        return term != other
    return term[at] == other[at + 1] and term[at + 1] == other[at] and term[at + 2:] == other[at + 2:]


def alike_until(term, other):
    """How many signs two terms begin with alike, of which the first one is not the longer one."""
    for at, sign in enumerate(term):
        if sign != other[at]:
            return at
    return len(term)

"""Tallies: how many row documents a question finds, by days and by terms."""

from plainscan.documents import LARGEST_DAY, is_day
from plainscan.errors import InvalidField, InvalidTallies
from plainscan.questions import holds_for, is_field, is_term, need_question
from plainscan.ranking import need_documents
from plainscan.spreads import all_spreads, by_number
from plainscan.values import is_from_one, is_tuple_of, need_number

WIDEST_SPAN = LARGEST_DAY + 1


def found_documents(documents, question):
    """The row documents for whose rows a question holds."""
    return [document for document in documents if holds_for(question, document[2], document[3])]


def need_span(span):
    """An error for what is no span of days."""
    need_number(span, 1, WIDEST_SPAN)


def need_field(field):
    """An error for what is no field."""
    if not is_field(field):
        raise InvalidField(field)


def tally_days(documents, question, span):
    """The found documents by days: pairs (DAY, NUMBER) for each multiple of a span that has some, ascending."""
    need_documents(documents)
    need_question(question)
    need_span(span)
    numbers = {}
    for _, day, _, _ in found_documents(documents, question):
        first = day // span * span
        numbers[first] = numbers.get(first, 0) + 1
    return tuple(sorted(numbers.items()))


def tally_terms(documents, question, field):
    """The found documents by terms: pairs (TERM, NUMBER) for each term that some have in a field."""
    need_documents(documents)
    need_question(question)
    need_field(field)
    return by_number(all_spreads(found_documents(documents, question), field))


def is_day_number(value):
    """Whether a value is a pair (DAY, NUMBER)."""
    return is_tuple_of(value, 2, 2) and is_day(value[0]) and is_from_one(value[1])


def is_term_number(value):
    """Whether a value is a pair (TERM, NUMBER)."""
    return is_tuple_of(value, 2, 2) and is_term(value[0]) and is_from_one(value[1])


def are_unlike(pairs):
    """Whether no two of some pairs have the same first thing."""
    return len(set([first for first, _ in pairs])) == len(pairs)


def added_days(rows):
    """Tallies by days, added."""
    if type(rows) is not tuple:
        raise InvalidTallies(None)
    for at, row in enumerate(rows):
        if type(row) is not tuple or not all([is_day_number(pair) for pair in row]) or not are_unlike(row):
            raise InvalidTallies(at)
    return tuple(sorted(sums_of(rows).items()))


def added_terms(rows):
    """Tallies by terms, added."""
    if type(rows) is not tuple:
        raise InvalidTallies(None)
    for at, row in enumerate(rows):
        if type(row) is not tuple or not all([is_term_number(pair) for pair in row]) or not are_unlike(row):
            raise InvalidTallies(at)
    return by_number(sums_of(rows))


def sums_of(rows):
    """For each day or term of some tallies the sum of its numbers."""
    sums = {}
    for row in rows:
        for one, number in row:
            sums[one] = sums.get(one, 0) + number
    return sums

"""Ranks, scores, and the ranked row documents for which a question holds."""

from plainscan.errors import (
    InvalidCounted, InvalidDocuments, InvalidNumber, InvalidPoints, InvalidRare, InvalidSpreads, InvalidTies, NotARank)
from plainscan.documents import is_day, is_key
from plainscan.questions import (
    all_open, atom_holds, holds_for, is_row, is_term, need_question, need_row, terms_scored, unlike)
from plainscan.values import is_number, is_one_of, is_tuple_of, need_many, need_number

MOST_POINTS = 5
LARGEST_POINTS = 9
MOST_RARE = 4
LARGEST_RARE = 3
LARGEST_BONUS = 9
TIES = ("young", "old", "key")
COUNTED = ("seen", "all")
LARGEST_NUMBER = 10 ** 30
MOST_DOCUMENTS = 200


def is_numbers(value, most, largest):
    """Whether a value is a tuple of one to so many numbers from 0 to a largest one."""
    return is_tuple_of(value, 1, most) and all([is_number(number, 0, largest) for number in value])


def need_points(points):
    """An error for what is no points for heads or bodies."""
    if not is_numbers(points, MOST_POINTS, LARGEST_POINTS) or points[0] != 0:
        raise InvalidPoints(points)


def need_rank(rank):
    """An error for what is no rank."""
    if not isinstance(rank, Rank):
        raise NotARank(rank)


def at_or_last(numbers, index):
    """The number with an index, the last one if the index is beyond the end."""
    return numbers[min(index, len(numbers) - 1)]


class Rank:
    """How documents are scored and ordered."""
    def __init__(self, heads, bodies, rare, bonus, ties, counted="seen"):
        need_points(heads)
        need_points(bodies)
        if not is_numbers(rare, MOST_RARE, LARGEST_RARE):
            raise InvalidRare(rare)
        if not is_number(bonus, 0, LARGEST_BONUS):
            raise InvalidNumber(bonus)
        if not is_one_of(ties, TIES):
            raise InvalidTies(ties)
        if not is_one_of(counted, COUNTED):
            raise InvalidCounted(counted)
        self.heads = heads
        self.bodies = bodies
        self.rare = rare
        self.bonus = bonus
        self.ties = ties
        self.counted = counted
        self.parts = (heads, bodies, rare, bonus, ties, counted)

    def __eq__(self, other):
        return isinstance(other, Rank) and self.parts == other.parts

    def points(self, heads, bodies):
        """The points of a term that stands so often in the head and so often in the body."""
        need_number(heads, 0, LARGEST_NUMBER)
        need_number(bodies, 0, LARGEST_NUMBER)
        return at_or_last(self.heads, heads) + at_or_last(self.bodies, bodies)

    def factor(self, number):
        """The factor of a number of documents."""
        need_number(number, 0, LARGEST_NUMBER)
        if number == 0:
            return 0
        return at_or_last(self.rare, number.bit_length() - 1)

    def value(self, class_number, heads, bodies):
        """What a term of a class is worth that stands so often in the head and in the body."""
        need_number(class_number, 1, LARGEST_NUMBER)
        return at_or_last(self.rare, class_number - 1) * self.points(heads, bodies)

    def is_blind(self):
        """Whether no number of documents can make a difference."""
        return min(self.rare) == max(self.rare) or max([*self.heads, *self.bodies]) == 0


def is_row_document(value):
    """Whether a value is one of the row documents."""
    if not is_tuple_of(value, 4, 4):
        return False
    key, day, head, body = value
    return is_key(key) and is_day(day) and is_row(head) and is_row(body)


def need_documents(documents, others=()):
    """An error with the first of the row documents that is wrong, or has the key of one of the others."""
    if type(documents) is not tuple:
        raise InvalidDocuments(None)
    taken = {document[0]: True for document in others}
    last = 0
    for at, document in enumerate(documents):
        if at == MOST_DOCUMENTS or not is_row_document(document) or document[0] <= last or document[0] in taken:
            raise InvalidDocuments(at)
        last = document[0]


def need_spreads(spreads):
    """An error with the first of the spreads that is wrong."""
    if type(spreads) is not tuple:
        raise InvalidSpreads(None)
    last = ""
    for at, spread in enumerate(spreads):
        if not is_spread(spread) or spread[0] <= last:
            raise InvalidSpreads(at)
        last = spread[0]


def is_spread(value):
    """Whether a value is a pair (TERM, NUMBER)."""
    return is_tuple_of(value, 2, 2) and is_term(value[0]) and is_number(value[1], 0, LARGEST_NUMBER)


def score(question, rank, head, body, spreads):
    """The score of a pair of rows, told how many of the counted documents have each term."""
    need_question(question)
    need_rank(rank)
    need_row(head)
    need_row(body)
    need_spreads(spreads)
    return score_of(question, rank, head, body, dict(spreads))


def score_of(question, rank, head, body, spreads):
    """The same, of what surely is all this, the spreads in a dict."""
    total = 0
    for term in terms_scored(question):
        total += rank.factor(spreads.get(term, 0)) * rank.points(head.count(term), body.count(term))
    near = [atom for atom in unlike(all_open(question)) if atom[0] in ("row", "near")]
    return total + rank.bonus * len([atom for atom in near if atom_holds(atom, head, body)])


def spreads_of(terms, documents):
    """For each of some terms the number of the row documents that have it."""
    return {term: len([key for key, _, head, body in documents if term in head or term in body]) for term in terms}


def tie_of(day, ties):
    """What orders documents with equal scores ahead of the key, rising."""
    if ties == "young":
        return -day
    if ties == "old":
        return day
    return 0


def ranked(documents, further, question, rank, many):
    """The plain scan of row documents that are seen, with further ones that are not, as pairs (KEY, SCORE)."""
    need_documents(documents)
    need_documents(further, documents)
    need_question(question)
    need_rank(rank)
    need_many(many)
    return all_ranked(documents, further, question, rank)[:many]


def all_ranked(documents, further, question, rank):
    """All rows of the same, of what surely is all this."""
    counted = documents if rank.counted == "seen" else documents + further
    spreads = spreads_of(terms_scored(question), counted)
    scored = [(key, day, score_of(question, rank, head, body, spreads)) for key, day, head, body in documents
              if holds_for(question, head, body)]
    return in_order(scored, rank.ties)


def in_order(scored, ties):
    """The pairs (KEY, SCORE) of triples (KEY, DAY, SCORE), ranked."""
    rows = sorted([(-worth, tie_of(day, ties), key) for key, day, worth in scored])
    return tuple([(key, -worth) for worth, _, key in rows])

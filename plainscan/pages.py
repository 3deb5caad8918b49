"""Pages: a plain scan at a count, told piece by piece."""

from plainscan.documents import need_log
from plainscan.errors import InvalidPlace
from plainscan.questions import need_question
from plainscan.ranking import need_rank
from plainscan.rights import need_asker
from plainscan.scans import counted_scan
from plainscan.values import is_count, is_tuple_of, need_many
from plainscan.words import need_rule


def is_place(value):
    """Whether a value is a place."""
    return is_tuple_of(value, 2, 2) and is_count(value[0]) and is_count(value[1])


def need_place(place):
    """An error for what is no place."""
    if not is_place(place):
        raise InvalidPlace(place)


def page_of(log, rule, place, asker, question, rank, many):
    """The page at a place: the triple (NEXT PLACE, ROWS, IS_MORE)."""
    need_log(log)
    need_rule(rule)
    need_place(place)
    need_asker(asker)
    need_question(question)
    need_rank(rank)
    need_many(many)
    return page_in(counted_scan(log, rule, place[0], asker, question, rank), place, many)


def page_in(rows, place, many):
    """The same, told all rows of the plain scan."""
    count, at = place
    told = rows[at:at + many]
    behind = at + len(told)
    return ((count, behind), told, behind < len(rows))

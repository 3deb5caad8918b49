"""Pages: a plain scan at a count, told piece by piece."""

from plainscan.documents import need_log
from plainscan.errors import InvalidPlace
from plainscan.questions import need_question
from plainscan.ranking import need_rank
from plainscan.rights import need_asker
from plainscan.scans import counted_scan
from plainscan.values import is_count, is_tuple_of, need_many
from plainscan.words import need_rule


def is_place(value):
    """Whether a value is a place."""
    return is_tuple_of(value, 2, 2) and is_count(value[0]) and is_count(value[1])


def page_of(log, rule, place, asker, question, rank, many):
    """The page at a place: the triple (NEXT PLACE, ROWS, IS_MORE)."""
    need_log(log)
    need_rule(rule)
    if not is_place(place):
        raise InvalidPlace(place)
    need_asker(asker)
    need_question(question)
    need_rank(rank)
    need_many(many)
    count, at = place
    rows = counted_scan(log, rule, count, asker, question, rank)
    told = rows[at:at + many]
    behind = at + len(told)
    return ((count, behind), told, behind < len(rows))

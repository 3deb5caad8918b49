"""Plain scans of a log: the seen documents for which a question holds, ranked."""

from plainscan.documents import need_log
from plainscan.questions import need_question
from plainscan.ranking import all_ranked, need_rank
from plainscan.rankinglikes import need_traceless
from plainscan.rights import need_asker
from plainscan.values import need_count, need_many, need_number
from plainscan.words import need_rule


def row_documents(log, rule, version, asker):
    """The pair of the row documents that an asker sees at a version, and of those that it does not see."""
    need_log(log)
    need_rule(rule)
    need_number(version, 0, len(log))
    need_asker(asker)
    seen = log.seen(version, asker)
    kept = {document[0]: True for document in seen}
    unseen = [document for document in log.documents(version) if document[0] not in kept]
    further = [(key, day, head, body) for key, day, _, head, body in unseen]
    return (rows_of(seen, rule), rows_of(further, rule))


def rows_of(documents, rule):
    """Documents as seen with rows in the place of their texts."""
    return tuple([(key, day, rule.row(head), rule.row(body)) for key, day, head, body in documents])


def scan(log, rule, version, asker, question, rank, many):
    """The plain scan of a log at a version: the first many pairs (KEY, SCORE)."""
    need_log(log)
    need_rule(rule)
    need_number(version, 0, len(log))
    need_asker(asker)
    need_question(question)
    need_rank(rank)
    need_many(many)
    return whole_scan(log, rule, version, asker, question, rank)[:many]


def whole_scan(log, rule, version, asker, question, rank):
    """All pairs of the same, of what surely is all this."""
    seen, further = row_documents(log, rule, version, asker)
    return all_ranked(seen, further, question, rank)


def scan_count(log, rule, count, asker, question, rank, many):
    """The plain scan at the versions with an own count of the asker."""
    need_log(log)
    need_rule(rule)
    need_count(count)
    need_asker(asker)
    need_question(question)
    need_rank(rank)
    need_many(many)
    return counted_scan(log, rule, count, asker, question, rank)[:many]


def counted_scan(log, rule, count, asker, question, rank):
    """All pairs of the same, of what surely is all this but for traces and counts that no version has."""
    need_traceless(rank)
    version, _ = log.versions(count, asker)
    return whole_scan(log, rule, version, asker, question, rank)

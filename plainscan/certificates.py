"""Certificates: claims that are so, each with a paper that the checker accepts."""

from plainscan.fleets import readings_in, served_count
from plainscan.kept import true_list
from plainscan.looks import any_fewest, settled
from plainscan.pages import page_of
from plainscan.parts import plain_part
from plainscan.questionlikes import parting_rows, row_states
from plainscan.rankinglikes import multipliers, parting, ranked_alike, trace
from plainscan.rights import parting_view
from plainscan.scans import scan_count
from plainscan.windows import least_window
from plainscan.wordlikes import parting_text
from plainscan.words import need_rule


def certify_read(rule, other):
    """Whether two word rules read alike."""
    text = parting_text(rule, other)
    if text is None:
        return (("read alike", rule.parts, other.parts), ())
    return (("read unlike", rule.parts, other.parts), text)


def certify_finds(question, other):
    """Whether one question finds no more than another one."""
    rows = parting_rows(question, other)
    if rows is None:
        return (("finds no more", question, other), row_states(question, other))
    return (("finds more", question, other), rows)


def certify_ranked(rank, other):
    """Whether two ranks order alike."""
    if ranked_alike(rank, other):
        return (("ranked alike", rank.parts, other.parts), multipliers(rank, other))
    paper = parting(rank, other)
    if paper is None:
        paper = "ties" if rank.ties != other.ties else "counted"
    return (("ranked unlike", rank.parts, other.parts), paper)


def certify_trace(rank):
    """Whether a rank shows a trace."""
    paper = trace(rank)
    if paper is None:
        return (("no trace", rank.parts), ())
    return (("trace", rank.parts), paper)


def certify_shows(policy, other):
    """Whether one policy shows no more than another one."""
    view = parting_view(policy, other)
    if view is None:
        return (("shows no more", policy.rights, other.rights), ())
    return (("shows more", policy.rights, other.rights), view)


def certify_scanned(rule, log, count, asker, question, rank, many):
    """The plain scan at a count."""
    # A scan looks at the log first.
    need_rule(rule)
    rows = scan_count(log, rule, count, asker, question, rank, many)
    return (("scanned", rule.parts, log.changes, count, asker, question, rank.parts, many, rows), ())


def certify_shown(question, head, body):
    """The least window that shows a question, None if the question does not hold."""
    window = least_window(question, head, body)
    if window is None:
        return None
    return (("shown", question, head, body, window), ())


def certify_page(log, rule, place, asker, question, rank, many):
    """The page at a place."""
    page = page_of(log, rule, place, asker, question, rank, many)
    return (("paged", rule.parts, log.changes, place, asker, question, rank.parts, many, page), ())


def certify_settled(lists, depths, many):
    """What depths settle, None if they settle nothing."""
    keys = settled(lists, depths, many)
    if keys is None:
        return None
    return (("settled", lists, many, keys), depths)


def certify_fewest(lists, many):
    """The least sum of depths that settle something."""
    depths = any_fewest(lists, many)
    return (("fewest", lists, many, sum(depths)), depths)


def certify_plain(log, floor):
    """The plain part of a log."""
    part = plain_part(log, floor)
    return (("plain part", log.changes, floor, part.entries), ())


def certify_served(fleet, log, asker, least):
    """The served count, with the copies that hold it, or that none is served."""
    count = served_count(fleet, log, asker, least)
    told = (fleet.lots, fleet.copies, log.changes, asker, least)
    if count is None:
        return (("unserved", *told), ())
    return (("served", *told, count), readings_in(fleet, log.versions(count, asker)))


def certify_true(rule, log, asker, question, first):
    """The true list of a kept search."""
    # The true list looks at the log first.
    need_rule(rule)
    tells = true_list(log, rule, asker, question, first)
    return (("true list", rule.parts, log.changes, asker, question, first, tells), ())

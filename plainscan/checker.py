"""The checker of claims: it accepts nothing but what is so, whoever made the paper for it."""

from plainscan.documents import MOST_CHANGES, Log
from plainscan.errors import NotAFleet, NotARank, NotAWordRule, ScanError
from plainscan.fleets import MOST_HOUSES, fleet_with, need_lots, served_count
from plainscan.kept import true_list
from plainscan.looks import fewest_looks, settled
from plainscan.pages import page_of
from plainscan.parts import plain_part
from plainscan.questionlikes import MOST_STATES, begin_of, looks_in, parted, reached, step, things
from plainscan.questions import holds, need_question
from plainscan.ranking import Rank, ranked
from plainscan.rankinglikes import gains_of, is_parting, ranked_alike, shows_trace, value_of
from plainscan.rights import Policy, is_ascending, shows_no_more
from plainscan.scans import scan_count
from plainscan.values import MOST_ASKED, is_from_one, is_number, is_tuple_of
from plainscan.windows import is_shown
from plainscan.wordlikes import read_alike
from plainscan.words import WordRule


def is_nothing(paper):
    """Whether a paper is the one that claims have that need none."""
    return is_tuple_of(paper, 0, 0)


def is_exactly(value, told):
    """Whether a value, whatever it is, is the told one, with no number taken for True or False."""
    if type(value) is tuple and type(told) is tuple:
        return len(value) == len(told) and all([is_exactly(one, other) for one, other in zip(value, told)])
    return type(value) is type(told) and value == told


def rule_of(parts):
    """The word rule with these parts."""
    if not is_tuple_of(parts, 5, 5):
        raise NotAWordRule(parts)
    return WordRule(*parts)


def rank_of(parts):
    """The rank with these parts."""
    if not is_tuple_of(parts, 6, 6):
        raise NotARank(parts)
    return Rank(*parts)


def fleet_of(lots, copies):
    """The fleet of so many lots and six houses with these copies."""
    need_lots(lots)
    if type(copies) is not tuple or not all([is_copy(copy, lots) for copy in copies]):
        raise NotAFleet(copies)
    if not is_ascending([copy[:2] for copy in copies]):
        raise NotAFleet(copies)
    return fleet_with(lots, MOST_HOUSES, (), copies)


def is_copy(value, lots):
    """Whether a value is a copy (HOUSE, LOT, FLOOR, APPLIED) of a fleet with so many lots."""
    if not is_tuple_of(value, 4, 4):
        return False
    house, lot, floor, applied = value
    if not is_number(house, 0, MOST_HOUSES - 1) or not is_number(lot, 0, lots - 1):
        return False
    return is_number(applied, 0, MOST_CHANGES) and is_number(floor, 0, applied)


def judge_read_alike(told, paper):
    """Whether two rules read alike."""
    rule, other = told
    return is_nothing(paper) and read_alike(rule_of(rule), rule_of(other))


def judge_read_unlike(told, paper):
    """Whether a text has unlike rows."""
    rule, other = told
    return rule_of(rule).row(paper) != rule_of(other).row(paper)


def states_reached(told):
    """The rows of all states of two questions, with an error for what is no two questions, or has too many."""
    question, other = told
    need_question(question)
    need_question(other)
    return reached(looks_in(question, other))


def judge_finds_no_more(told, paper):
    """Whether states lead to none but themselves, and the other question holds for no fewer of their pairs."""
    question, other = told
    states_reached(told)
    if not is_closed(paper, looks_in(question, other)):
        return False
    return parted(question, other, {state: () for state in paper}) is None


def is_closed(paper, looks):
    """Whether a paper has unlike states of looks, that of the empty row, and with each all that it is led to."""
    if not is_tuple_of(paper, 1, MOST_STATES):
        return False
    known = [[row_state[0] for row_state in reached((look,))] for look in looks]
    if not all([is_state(state, known) for state in paper]):
        return False
    there = {state: True for state in paper}
    if len(there) < len(paper) or begin_of(looks) not in there:
        return False
    terms = things(looks)
    return all([step(looks, state, term) in there for state in paper for term in terms])


def is_state(value, known):
    """Whether a value is a state, told the states that each look can have alone."""
    if not is_tuple_of(value, len(known), len(known)):
        return False
    return all([any([is_exactly(one, state) for state in states]) for one, states in zip(value, known)])


def judge_finds_more(told, paper):
    """Whether the first question holds for a pair of rows, and the other one does not."""
    question, other = told
    states_reached(told)
    if not is_tuple_of(paper, 2, 2):
        return False
    head, body = paper
    return holds(question, head, body) and not holds(other, head, body)


def judge_ranked_alike(told, paper):
    """Whether all that is worth something by two ranks is worth the same with two factors, and all else is alike."""
    rank, other = rank_of(told[0]), rank_of(told[1])
    if not is_tuple_of(paper, 2, 2) or not is_from_one(paper[0]) or not is_from_one(paper[1]):
        return False
    first, second = paper
    gains = [(value_of(rank, gain), value_of(other, gain)) for gain in gains_of(rank, other)]
    return ranked_alike(rank, other) and all([first * one == second * two for one, two in gains])


def judge_ranked_unlike(told, paper):
    """Whether steps part two ranks, or another word does."""
    rank, other = rank_of(told[0]), rank_of(told[1])
    if type(paper) is not str:
        return is_parting(rank, other, paper)
    if paper == "ties":
        return rank.ties != other.ties
    return paper == "counted" and rank.counted != other.counted and not (rank.is_blind() and other.is_blind())


def judge_no_trace(told, paper):
    """Whether a rank shows no trace."""
    return is_nothing(paper) and not shows_trace(rank_of(told[0]))


def judge_trace(told, paper):
    """Whether further documents turn something that is shown of those that are seen."""
    rank = rank_of(told[0])
    if not is_tuple_of(paper, 3, 3):
        return False
    documents, further, question = paper
    alone = ranked(documents, (), question, rank, MOST_ASKED)
    return ranked(documents, further, question, rank, MOST_ASKED) != alone


def judge_shows_no_more(told, paper):
    """Whether some rights show no more than others."""
    rights, others = told
    return is_nothing(paper) and shows_no_more(Policy(rights), Policy(others))


def judge_shows_more(told, paper):
    """Whether a view is seen by some rights and not by others."""
    policy, other = Policy(told[0]), Policy(told[1])
    if not is_tuple_of(paper, 2, 2):
        return False
    labels, asker = paper
    return policy.sees(labels, asker) and not other.sees(labels, asker)


def judge_scanned(told, paper):
    """Whether a plain scan at a count has some rows."""
    rule, changes, count, asker, question, rank, many, rows = told
    found = scan_count(Log(changes), rule_of(rule), count, asker, question, rank_of(rank), many)
    return is_nothing(paper) and is_exactly(rows, found)


def judge_settled(told, paper):
    """Whether depths settle some keys."""
    lists, many, keys = told
    return type(keys) is tuple and is_exactly(keys, settled(lists, paper, many))


def judge_fewest(told, paper):
    """Whether depths with a sum settle something, and none with a lesser sum do."""
    lists, many, number = told
    if settled(lists, paper, many) is None or not is_exactly(number, sum(paper)):
        return False
    return number == fewest_looks(lists, many)


def judge_plain_part(told, paper):
    """Whether the plain part of a log has some entries."""
    changes, floor, entries = told
    return is_nothing(paper) and is_exactly(entries, plain_part(Log(changes), floor).entries)


def judge_served(told, paper):
    """Whether a count is the served one, and a version of it is held by a copy of each lot."""
    lots, copies, changes, asker, least, count = told
    fleet, log = fleet_of(lots, copies), Log(changes)
    if not is_exactly(count, served_count(fleet, log, asker, least)) or not is_tuple_of(paper, lots, lots):
        return False
    held = all([is_reading(one, fleet, log, lot) for lot, one in enumerate(paper)])
    return count is not None and held and all([log.count(version, asker) == count for _, version in paper])


def is_reading(value, fleet, log, lot):
    """Whether a value is a pair (HOUSE, VERSION) of a copy of a lot that holds this version of a log."""
    if not is_tuple_of(value, 2, 2) or not is_number(value[1], 0, len(log)):
        return False
    for house, other, floor, applied in fleet.copies:
        if other == lot and is_exactly(value[0], house) and floor <= value[1] <= applied:
            return True
    return False


def judge_unserved(told, paper):
    """Whether no count is served."""
    lots, copies, changes, asker, least = told
    return is_nothing(paper) and served_count(fleet_of(lots, copies), Log(changes), asker, least) is None


def judge_true_list(told, paper):
    """Whether tells are the true list of a kept search."""
    rule, changes, asker, question, first, tells = told
    return is_nothing(paper) and is_exactly(tells, true_list(Log(changes), rule_of(rule), asker, question, first))


def judge_shown(told, paper):
    """Whether a question is shown by a window."""
    question, head, body, window = told
    return is_nothing(paper) and is_shown(question, head, body, window)


def judge_paged(told, paper):
    """Whether a page at a place is the told one."""
    rule, changes, place, asker, question, rank, many, page = told
    found = page_of(Log(changes), rule_of(rule), place, asker, question, rank_of(rank), many)
    return is_nothing(paper) and is_exactly(page, found)


JUDGES = {
    "read alike": judge_read_alike,
    "read unlike": judge_read_unlike,
    "finds no more": judge_finds_no_more,
    "finds more": judge_finds_more,
    "ranked alike": judge_ranked_alike,
    "ranked unlike": judge_ranked_unlike,
    "no trace": judge_no_trace,
    "trace": judge_trace,
    "shows no more": judge_shows_no_more,
    "shows more": judge_shows_more,
    "scanned": judge_scanned,
    "settled": judge_settled,
    "fewest": judge_fewest,
    "plain part": judge_plain_part,
    "served": judge_served,
    "unserved": judge_unserved,
    "true list": judge_true_list,
    "shown": judge_shown,
    "paged": judge_paged,
}
# How many things stand behind the word of a claim.
LENGTHS = {
    "read alike": 2,
    "read unlike": 2,
    "finds no more": 2,
    "finds more": 2,
    "ranked alike": 2,
    "ranked unlike": 2,
    "no trace": 1,
    "trace": 1,
    "shows no more": 2,
    "shows more": 2,
    "scanned": 8,
    "settled": 3,
    "fewest": 3,
    "plain part": 3,
    "served": 6,
    "unserved": 5,
    "true list": 6,
    "shown": 4,
    "paged": 8,
}


def accepts(claim, paper):
    """Whether a claim is one for the checker and a paper is one for it, whatever both are."""
    if type(claim) is not tuple or len(claim) == 0 or type(claim[0]) is not str or claim[0] not in JUDGES:
        return False
    word, *told = claim
    if len(told) != LENGTHS[word]:
        return False
    judge = JUDGES[word]
    try:
        return judge(tuple(told), paper)
    except ScanError:
        return False

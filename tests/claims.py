"""Claims with papers, made by hand, and a plain judgement of which a checker may accept."""

from plainscan.documents import Log
from plainscan.errors import ScanError
from plainscan.looks import settled
from plainscan.pages import is_place
from plainscan.questions import is_question, is_row
from plainscan.ranking import Rank, ranked
from plainscan.rankinglikes import step_value
from plainscan.rights import Policy, is_asker, is_labels
from plainscan.windows import is_window
from plainscan.wordlikes import parting_text
from plainscan.words import WordRule
from tests.test_documents import drawn_changes, drawn_rights, plain_counts, replayed
from tests.test_fleets import drawn_fleet, plain_fence, plain_held, plain_served
from tests.test_kept import numbered, plain_found, plain_notes
from tests.test_looks import all_depths, drawn_depths, drawn_lists, plain_settled
from tests.test_parts import plain_entries, plain_merged
from tests.test_questionlikes import all_looks, drawn_pair, few_atom, looked_state, standing, walked
from tests.test_questions import drawn_questions, drawn_row, plain_holds
from tests.test_ranking import drawn_parts, plain_scan
from tests.test_rankinglikes import all_times, drawn_pairs, plain_alike, plain_blind, plain_multipliers, plain_step_value, plain_value, sign
from tests.test_rights import ASKERS as ALL_ASKERS
from tests.test_rights import plain_sees
from tests.test_scans import ASKERS, drawn_texts, rows_of, traceless
from tests.test_windows import all_windows, plain_cut, plain_shown
from tests.test_wordlikes import drawn_neighbour, drawn_word, is_text
from tests.test_wordlikes import drawn_parts as drawn_words
from tests.test_words import drawn_rule, plain_reading


class Wrong(ScanError):
    """What is no claim, or no paper for one."""


def same(value, told):
    """Whether two values are written alike: no number is taken for True, and no list for a tuple."""
    return repr(value) == repr(told)


def need(*truths):
    for truth in truths:
        if not truth:
            raise Wrong()


def is_whole(value, low=0, high=None):
    return type(value) is int and value >= low and (high is None or value <= high)


def rule_with(parts):
    need(type(parts) is tuple, len(parts) == 5 if type(parts) is tuple else False)
    return WordRule(*parts)


def need_ranks(*ranks):
    for parts in ranks:
        need(type(parts) is tuple and len(parts) == 6)
        Rank(*parts)


# The judgements: for each kind of claim by plain reckonings, behind a look at what all its parts are.

def read_alike(rule, other, paper):
    text = parting_text(rule_with(rule), rule_with(other))
    if text is not None:
        assert plain_reading(rule, text) != plain_reading(other, text)
    return text is None and same(paper, ())


def read_unlike(rule, other, paper):
    rule_with(rule), rule_with(other), need(is_text(paper))
    return plain_reading(rule, paper) != plain_reading(other, paper)


def need_states(question, other):
    need(is_question(question), is_question(other))
    states = walked(question, other, 2001)
    need(len(states) <= 2000)
    return states


def one_step(look, state, term):
    """The state of a look behind a place more, by the words of the document."""
    kind, *told = look
    if kind == "word":
        return 1 if term == told[0] else state
    if kind == "starts":
        return 1 if term is not None and term[:len(told[0])] == told[0] else state
    if kind == "row":
        terms = told[0]
        last = terms[:state] + (term,)
        return state if state == len(terms) else [many for many in range(len(last) + 1) if last[len(last) - many:] == terms[:many]][-1]
    first, second, most = told
    if state == (9, 9) or (term == first and state[1]) or (term == second and state[0]):
        return (9, 9)
    return tuple(1 if term == one else ago + 1 if 1 <= ago < most else 0 for one, ago in zip((first, second), state))


def held_by(question, looks, states):
    """Whether a question holds for two rows, told their states."""
    kind, inner = question[0], question[1]
    if kind == "not":
        return not held_by(inner, looks, states)
    if kind in ("all", "any"):
        found = [held_by(part, looks, states) for part in inner]
        return False not in found if kind == "all" else True in found
    look = (kind, *question[2:])
    done = {"word": 1, "starts": 1, "near": (9, 9)}.get(kind) or len(look[1])
    rows = {"head": states[:1], "body": states[1:], "any": states}[inner]
    return done in [state[looks.index(look)] for state in rows]


def own_states(look):
    atom = (look[0], "any", *look[1:])
    return [looked_state(look, row) for row in walked(atom, atom).values()]


def finds_no_more(question, other, paper):
    need_states(question, other)
    looks = all_looks(question, other)
    need(type(paper) is tuple and len(paper) <= 2000)
    known = [[repr(state) for state in own_states(look)] for look in looks]
    for state in paper:
        need(type(state) is tuple and len(state) == len(looks))
        need(*(repr(one) in states for one, states in zip(state, known)))
    need(len(set(paper)) == len(paper), tuple(looked_state(look, ()) for look in looks) in paper)
    for state in paper:
        for term in standing(question, other):
            need(tuple(one_step(look, one, term) for look, one in zip(looks, state)) in paper)
    return all(held_by(other, looks, (head, body)) or not held_by(question, looks, (head, body)) for head in paper for body in paper)


def finds_more(question, other, paper):
    need_states(question, other)
    need(type(paper) is tuple and len(paper) == 2 and is_row(paper[0]) and is_row(paper[1]))
    return plain_holds(question, *paper) and not plain_holds(other, *paper)


def ranked_alike(rank, other, paper):
    need_ranks(rank, other)
    need(type(paper) is tuple and len(paper) == 2 and is_whole(paper[0], 1) and is_whole(paper[1], 1))
    m, n = paper
    gains = [(plain_value(rank, number, times), plain_value(other, number, times)) for number in range(1, 7) for times in all_times()]
    return plain_alike(rank, other) and all(m * one == n * two for one, two in [*gains, (rank[3], other[3])])


def ranked_unlike(rank, other, paper):
    need_ranks(rank, other)
    if type(paper) is str:
        both_blind = plain_blind(rank) and plain_blind(other)
        return paper == "ties" and rank[4] != other[4] or paper == "counted" and rank[5] != other[5] and not both_blind
    need(type(paper) is tuple)
    sums = [0, 0]
    for pair in paper:
        need(type(pair) is tuple and len(pair) == 2 and type(pair[1]) is int and pair[1] != 0)
        step_value(Rank(*rank), pair[0])
        for at, parts in enumerate((rank, other)):
            sums[at] += pair[1] * plain_step_value(parts, pair[0])
    need(len({pair[0] for pair in paper}) == len(paper))
    return sign(sums[0]) != sign(sums[1])


def no_trace(rank, paper):
    need_ranks(rank)
    return same(paper, ()) and (rank[5] == "seen" or plain_blind(rank))


def trace(rank, paper):
    need_ranks(rank)
    need(type(paper) is tuple and len(paper) == 3)
    documents, further, question = paper
    ranked(documents, further, question, Rank(*rank), 40)
    return plain_scan(documents, further, question, rank, 40) != plain_scan(documents, (), question, rank, 40)


def shows_no_more(rights, others, paper):
    Policy(rights), Policy(others)
    shown = [(label, asker) for label, _ in rights for asker in ALL_ASKERS if plain_sees(rights, (label,), asker)]
    return same(paper, ()) and all(plain_sees(others, (label,), asker) for label, asker in shown)


def shows_more(rights, others, paper):
    Policy(rights), Policy(others)
    need(type(paper) is tuple and len(paper) == 2 and is_labels(paper[0]) and is_asker(paper[1]))
    return plain_sees(rights, *paper) and not plain_sees(others, *paper)


def need_scan(rule, changes, asker, question, rank, many):
    rule_with(rule), Log(changes), need_ranks(rank)
    need(is_asker(asker), is_question(question), is_whole(many, 1, 40), rank[5] == "seen" or plain_blind(rank))


def all_rows(rule, changes, count, asker, question, rank):
    seen, counts = plain_counts(replayed(changes), asker)
    need(count in counts)
    return plain_scan(rows_of(seen[counts.index(count)], WordRule(*rule)), (), question, rank, 1000)


def scanned(rule, changes, count, asker, question, rank, many, rows, paper):
    need_scan(rule, changes, asker, question, rank, many)
    need(is_whole(count))
    return same(paper, ()) and same(rows, all_rows(rule, changes, count, asker, question, rank)[:many])


def paged(rule, changes, place, asker, question, rank, many, page, paper):
    need_scan(rule, changes, asker, question, rank, many)
    need(is_place(place))
    rows = all_rows(rule, changes, place[0], asker, question, rank)
    told = rows[place[1]:place[1] + many]
    return same(paper, ()) and same(page, ((place[0], place[1] + len(told)), told, place[1] + many < len(rows)))


def settled_keys(lists, many, keys, paper):
    settled(lists, paper, many)
    told = plain_settled(lists, paper, many)
    return told is not None and same(keys, told)


def fewest(lists, many, number, paper):
    settled(lists, paper, many)
    need(max(map(len, lists)) <= 8, is_whole(number))
    if sum(paper) != number or plain_settled(lists, paper, many) is None:
        return False
    return all(settled(lists, depths, many) is None for depths in all_depths(lists) if sum(depths) < number)


def plain_part(changes, floor, entries, paper):
    Log(changes)
    need(is_whole(floor, 0, 200))
    return same(paper, ()) and same(entries, plain_merged(plain_entries(changes), floor, True))


def need_fleet(lots, copies, changes, asker, least):
    need(is_whole(lots, 1, 4), type(copies) is tuple)
    for copy in copies:
        need(type(copy) is tuple and len(copy) == 4)
        house, lot, floor, applied = copy
        need(is_whole(house, 0, 5), is_whole(lot, 0, lots - 1), is_whole(applied, 0, 200), is_whole(floor, 0, 200))
        need(floor <= applied)
    places = [copy[:2] for copy in copies]
    need(places == sorted(set(places)))
    Log(changes), need(is_asker(asker), is_whole(least))
    seen, counts = plain_counts(replayed(changes), asker)
    return counts, plain_served(copies, lots, counts, plain_fence(seen, counts), least)


def served(lots, copies, changes, asker, least, count, paper):
    counts, found = need_fleet(lots, copies, changes, asker, least)
    need(found is not None, same(count, found), type(paper) is tuple and len(paper) == lots)
    for lot, pair in enumerate(paper):
        need(type(pair) is tuple and len(pair) == 2 and is_whole(pair[0]) and is_whole(pair[1]))
        need(any(house == pair[0] and other == lot and floor <= pair[1] <= applied for house, other, floor, applied in copies))
        need(pair[1] < len(counts) and counts[pair[1]] == count)
    return True


def unserved(lots, copies, changes, asker, least, paper):
    return need_fleet(lots, copies, changes, asker, least)[1] is None and same(paper, ())


def true_list(rule, changes, asker, question, first, tells, paper):
    rule_with(rule), Log(changes), need(is_asker(asker), is_question(question), is_whole(first))
    found = plain_found(changes, WordRule(*rule), asker, question)
    need(first < len(found))
    return same(paper, ()) and same(tells, numbered(plain_notes(found, first, len(found) - 1)))


def shown(question, head, body, window, paper):
    need(is_question(question), is_row(head), is_row(body))
    need(is_window(head, body, window))
    return same(paper, ()) and plain_shown(question, (head, body), (plain_cut(head, window[0]), plain_cut(body, window[1])))


JUDGEMENTS = {
    "read alike": (2, read_alike), "read unlike": (2, read_unlike), "finds no more": (2, finds_no_more), "finds more": (2, finds_more),
    "ranked alike": (2, ranked_alike), "ranked unlike": (2, ranked_unlike), "no trace": (1, no_trace), "trace": (1, trace),
    "shows no more": (2, shows_no_more), "shows more": (2, shows_more), "scanned": (8, scanned), "settled": (3, settled_keys),
    "fewest": (3, fewest), "plain part": (3, plain_part), "served": (6, served), "unserved": (5, unserved), "true list": (6, true_list),
    "shown": (4, shown), "paged": (8, paged),
}
# The claims that exclude one another.
RIVALS = {"read alike": "read unlike", "finds no more": "finds more", "ranked alike": "ranked unlike", "no trace": "trace",
          "shows no more": "shows more"}
RIVALS.update({other: one for one, other in RIVALS.items()})


def plainly_accepted(claim, paper):
    """Whether a claim is one and is so, and its paper is one for it."""
    if type(claim) is not tuple or not claim or type(claim[0]) is not str or claim[0] not in JUDGEMENTS:
        return False
    many, judgement = JUDGEMENTS[claim[0]]
    if len(claim) != many + 1:
        return False
    try:
        return judgement(*claim[1:], paper)
    except ScanError:
        return False


# Claims that are so, each with a right paper, made without any certificate.

def made_read(draw):
    letters = draw.choice(("a", "ab", "abc"))
    one = tuple(drawn_words(draw, letters, 2))
    two = tuple(drawn_neighbour(draw, list(one), 2))
    texts = [drawn_word(draw, letters + "- !", 1, 30) for _ in range(40)]
    parting = [text for text in texts if plain_reading(one, text) != plain_reading(two, text)]
    if parting:
        return ("read unlike", one, two), parting[0]
    told = parting_text(WordRule(*one), WordRule(*two))
    return (("read alike", one, two), ()) if told is None else (("read unlike", one, two), told)


def made_finds(draw):
    question, other = drawn_pair(draw, few_atom, 3)
    rows = walked(question, other)
    pairs = [(head, body) for head in rows.values() for body in rows.values()]
    parting = [pair for pair in pairs if plain_holds(question, *pair) and not plain_holds(other, *pair)]
    if parting:
        return ("finds more", question, other), draw.choice(parting)
    states = list(rows)
    draw.shuffle(states)
    return ("finds no more", question, other), tuple(states)


def made_ranked(draw):
    one, two = drawn_pairs(draw, 1)[0]
    if plain_alike(one, two):
        m, n = plain_multipliers(one, two)
        times = draw.randint(1, 3)
        return ("ranked alike", one, two), (m * times, n * times)
    papers = ["ties"] * (one[4] != two[4]) + ["counted"] * (one[5] != two[5] and not (plain_blind(one) and plain_blind(two)))
    if plain_multipliers(one, two) is None:
        papers.append(plain_parting(one, two))
    return ("ranked unlike", one, two), draw.choice(papers)


def plain_parting(one, two):
    """A step that is worth something by one rank alone, or two of unlike worth with numbers that make the first sum 0."""
    steps = [("bonus",)] + [("word", number, times, (0, 0)) for number in (1, 2, 3, 4, 5) for times in all_times(5)]
    gains = [(step, plain_step_value(one, step), plain_step_value(two, step)) for step in steps]
    for step, first, second in gains:
        if (first == 0) != (second == 0):
            return ((step, 1),)
    for step, first, second in gains:
        for other, third, fourth in gains:
            if first * fourth != second * third:
                return ((step, third), (other, -first))
    return None


def made_trace(draw):
    parts = drawn_parts(draw)
    if parts[5] == "seen" or plain_blind(parts):
        return ("no trace", parts), ()
    head, body = ("a",) * parts[0].index(max(parts[0])), ("a",) * parts[1].index(max(parts[1]))
    question = ("word", "any", "a")
    for many in range(16):
        paper = (((5, 1, head, body),), tuple((key, 0, (), ("a",)) for key in range(10, 10 + many)), question)
        if plain_scan(paper[0], paper[1], question, parts, 40) != plain_scan(paper[0], (), question, parts, 40):
            return ("trace", parts), paper
    return None


def made_shows(draw):
    one, two = drawn_rights(draw), drawn_rights(draw)
    if draw.random() < 0.5:
        two = tuple(sorted({**dict(one), "zebra": ("any", ())}.items()))[draw.randint(0, 1):]
    views = [(tuple(sorted({label, *draw.sample([other for other, _ in one], draw.randint(0, len(one)))})), asker)
             for label, _ in one for asker in ALL_ASKERS]
    parting = [view for view in views if plain_sees(one, *view) and not plain_sees(two, *view)]
    if parting:
        return ("shows more", one, two), draw.choice(parting)
    return (("shows no more", one, two), ()) if shows_no_more(one, two, ()) else None


def drawn_log(draw):
    return drawn_changes(draw, draw.choice((0, 1, 6, 15)), 5, drawn_texts)


def made_scanned(draw):
    rule, changes, asker = drawn_rule(draw), drawn_log(draw), draw.choice(ASKERS)
    question, rank, many = drawn_questions(draw, 1)[0], traceless(drawn_parts(draw)), draw.choice((1, 2, 40))
    count = draw.choice(plain_counts(replayed(changes), asker)[1])
    rows = all_rows(rule, changes, count, asker, question, rank)
    if draw.random() < 0.5:
        return ("scanned", rule, changes, count, asker, question, rank, many, rows[:many]), ()
    at = draw.randint(0, len(rows) + 1)
    page = ((count, at + len(rows[at:at + many])), rows[at:at + many], at + many < len(rows))
    return ("paged", rule, changes, (count, at), asker, question, rank, many, page), ()


def made_settled(draw):
    lists, many = drawn_lists(draw, 4), draw.choice((1, 2, 3))
    depths = drawn_depths(draw, lists)
    keys = plain_settled(lists, depths, many)
    if draw.random() < 0.5:
        return None if keys is None else (("settled", lists, many, keys), depths)
    lists = tuple(pairs[:2] for pairs in lists)
    settling = [depths for depths in all_depths(lists) if plain_settled(lists, depths, many) is not None]
    depths = min(settling, key=sum)
    return ("fewest", lists, many, sum(depths)), depths


def made_part(draw):
    changes, floor = drawn_log(draw), draw.choice((0, 1, 5, 15, 200))
    return ("plain part", changes, floor, plain_merged(plain_entries(changes), floor, True)), ()


def made_served(draw):
    changes, asker, least = drawn_log(draw), draw.choice(ASKERS), draw.choice((0, 0, 1, 3))
    fleet = drawn_fleet(draw, len(changes), draw.choice((1, 1, 2)), draw.randint(3, 6), 60)
    seen, counts = plain_counts(replayed(changes), asker)
    count = plain_served(fleet.copies, fleet.lots, counts, plain_fence(seen, counts), least)
    told = (fleet.lots, fleet.copies, changes, asker, least)
    if count is None:
        return ("unserved", *told), ()
    assert count in plain_held(fleet.copies, fleet.lots, counts)
    paper = [draw.choice([(house, version) for house, other, floor, applied in fleet.copies if other == lot
                          for version in range(floor, min(applied, len(changes)) + 1) if counts[version] == count])
             for lot in range(fleet.lots)]
    return ("served", *told, count), tuple(paper)


def made_true(draw):
    rule, changes, asker, question = drawn_rule(draw), drawn_log(draw), draw.choice(ASKERS), drawn_questions(draw, 1)[0]
    found = plain_found(changes, WordRule(*rule), asker, question)
    first = draw.randrange(len(found))
    return ("true list", rule, changes, asker, question, first, numbered(plain_notes(found, first, len(found) - 1))), ()


def made_shown(draw):
    question, head, body = drawn_questions(draw, 1)[0], drawn_row(draw, 5), drawn_row(draw, 5)
    windows = [window for window in all_windows(head, body) if shown(question, head, body, window, ())]
    return (("shown", question, head, body, draw.choice(windows)), ()) if windows else None


MAKERS = (made_read, made_finds, made_ranked, made_trace, made_shows, made_scanned, made_settled, made_part, made_served, made_true, made_shown)


def made_claims(draw, maker, many):
    """So many claims that are so, with their papers."""
    found = []
    while len(found) < many:
        told = maker(draw)
        if told is not None:
            found.append(told)
    return found


# Bending: another value at one place of a claim or of a paper.

def bent(draw, value):
    """The same value with something else at one place of it."""
    if type(value) is tuple and value and draw.random() < 0.85:
        at = draw.randrange(len(value))
        return value[:at] + (bent(draw, value[at]),) + value[at + 1:]
    return draw.choice(others(draw, value))


def others(draw, value):
    if type(value) is bool:
        return [int(value), not value, None, str(value)]
    if type(value) is int:
        return [value + 1, value - 1, -value, value + 200, str(value), None, (value,), [value], bool(value), True, False, 10 ** 50]
    if type(value) is str:
        return [value + "a", value[:-1], value[1:], value[::-1], value.upper(), value + " ", "", None, (value,), [value], value.encode(), True]
    if value is None:
        return [0, "", (), False, "cat", [], {}]
    if type(value) is not tuple:
        return [None, (), 0, "cat", True]
    at = draw.randrange(len(value)) if value else 0
    return [list(value), value[:-1], value[1:], value + value[at:at + 1], value + (None,), value[::-1], (), (value,), None, len(value),
            value[:at] + value[at + 1:], value[at + 1:] + value[:at + 1], (True, *value[1:]), dict.fromkeys(range(len(value))), "".join(map(str, value))]

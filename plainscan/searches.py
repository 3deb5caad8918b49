"""Searches: the plain scan of what parts read, told from term lists alone."""

from plainscan.documents import MOST_CHANGES, seen_set
from plainscan.parts import documents_read, need_parts, term_lists
from plainscan.questions import all_atoms, all_open, judged, need_question, terms_scored, unlike
from plainscan.ranking import in_order, need_rank
from plainscan.rankinglikes import need_traceless
from plainscan.rights import need_asker, need_policy
from plainscan.values import need_many, need_number
from plainscan.words import need_rule

# Which places of a term list's triple, without the key, a field asks for.
FIELD_ROWS = {"head": (0,), "body": (1,), "any": (0, 1)}
NOWHERE = ((), ())


def search(parts, policy, rule, version, asker, question, rank, many):
    """The plain scan of what parts read at a version, for an asker by a policy: the first many pairs (KEY, SCORE)."""
    need_parts(parts)
    need_policy(policy)
    need_rule(rule)
    need_number(version, 0, MOST_CHANGES)
    need_asker(asker)
    need_question(question)
    need_rank(rank)
    need_many(many)
    need_traceless(rank)
    documents = documents_read(parts, version)
    days = {key: day for key, day, _, _ in seen_set(documents, policy, asker)}
    return answer(term_lists(documents, rule), days, question, rank)[:many]


def answer(lists, days, question, rank):
    """All pairs of the same, from the term lists and the days of the documents that are seen."""
    index = seen_index(lists, days)
    found = {atom: found_keys(atom, index) for atom in all_atoms(question)}
    scored = []
    for key, day in days.items():
        if judged(question, {atom: key in keys for atom, keys in found.items()}):
            scored.append((key, day, score_from(question, rank, index, found, key)))
    return in_order(scored, rank.ties)


def seen_index(lists, days):
    """For each term the places of it in both rows, for each key of a document that is seen."""
    index = {}
    for term, told in lists.items():
        index[term] = {key: (heads, bodies) for key, heads, bodies in told if key in days}
    return index


def found_keys(atom, index):
    """The keys of the documents for which an atom holds, as those of a dict."""
    kind, field, told, *_ = atom
    rows = FIELD_ROWS[field]
    if kind in ("row", "near"):
        first = told[0] if kind == "row" else told
        return {key: True for key in index.get(first, {}) if any([stands(atom, index, key, row) for row in rows])}
    found = {}
    terms = [told] if kind == "word" else [begun for begun in index if begun.startswith(told)]
    for term in terms:
        for key, places in index.get(term, {}).items():
            if any([places[at] for at in rows]):
                found[key] = True
    return found


def stands(atom, index, key, row):
    """Whether a row or near atom holds in one of both rows of a document."""
    kind, _, told, *more = atom
    if kind == "row":
        places = [places_of(term, index, key, row) for term in told]
        return any([all([first + at in there for at, there in enumerate(places)]) for first in places[0]])
    other, most = more
    ones, others = places_of(told, index, key, row), places_of(other, index, key, row)
    return any([0 < abs(one - another) <= most for one in ones for another in others])


def places_of(term, index, key, row):
    """The places of a term in one of both rows of a document."""
    return index.get(term, {}).get(key, NOWHERE)[row]


def score_from(question, rank, index, found, key):
    """The score of a document, told from which lists have it and which atoms find it."""
    total = 0
    for term in terms_scored(question):
        keys = index.get(term, {})
        heads, bodies = keys.get(key, NOWHERE)
        total += rank.factor(len(keys)) * rank.points(len(heads), len(bodies))
    near = [atom for atom in unlike(all_open(question)) if atom[0] in ("row", "near") and key in found[atom]]
    return total + rank.bonus * len(near)

"""Windows: stretches of a head and a body that show a question; spots of words, and excerpts of texts."""

from plainscan.errors import InvalidWindow
from plainscan.questions import (
    FARTHEST, LONGEST_ROW, all_open, atom_holds, bears, holds_for, need_question, need_row, unlike)
from plainscan.values import is_count, is_tuple_of, need_text
from plainscan.words import need_rule

EMPTY = (0, 0)
NEVER = LONGEST_ROW + 1
# All that an atom asks for stands within so many places.
WIDEST = FARTHEST + 1


def is_stretch(value, length):
    """Whether a value is a stretch of a row of a length."""
    if not is_tuple_of(value, 2, 2) or not is_count(value[0]) or not is_count(value[1]):
        return False
    return value == EMPTY or value[0] < value[1] <= length


def is_window(head, body, value):
    """Whether a value is a window of a pair of rows."""
    need_row(head)
    need_row(body)
    return is_tuple_of(value, 2, 2) and is_stretch(value[0], len(head)) and is_stretch(value[1], len(body))


def need_window(head, body, window):
    """An error for what is no window of a pair of rows."""
    if not is_window(head, body, window):
        raise InvalidWindow(window)


def cut_out(head, body, window):
    """The pair of rows in which all places beside a window are empty."""
    need_window(head, body, window)
    return (cut_row(head, window[0]), cut_row(body, window[1]))


def cut_row(row, stretch):
    """A row in which all places beside a stretch are empty."""
    first, last = stretch
    return (None,) * first + row[first:last] + (None,) * (len(row) - last)


def is_shown(question, head, body, window):
    """Whether a question is shown by a window."""
    need_question(question)
    cut_head, cut_body = cut_out(head, body, window)
    shown = [atom for atom in all_open(question) if atom_holds(atom, cut_head, cut_body)]
    return shows(question, head, body, shown)


def shows(question, head, body, shown):
    """Whether a question holds if its open standings do just for some atoms, and the other ones as the rows tell."""
    kind = question[0]
    if kind == "not":
        return holds_for(question, head, body)
    if kind == "all":
        return all([shows(part, head, body, shown) for part in question[1]])
    if kind == "any":
        return any([shows(part, head, body, shown) for part in question[1]])
    return question in shown


def least_window(question, head, body):
    """The least window that shows a question, None if the question does not hold."""
    need_question(question)
    need_row(head)
    need_row(body)
    atoms = unlike(all_open(question))
    heads = least_stretches(head, [None if atom[1] == "body" else atom for atom in atoms])
    bodies = least_stretches(body, [None if atom[1] == "head" else atom for atom in atoms])
    shown = {}
    found = []
    for head_mask, head_stretch in heads.items():
        for body_mask, body_stretch in bodies.items():
            mask = head_mask | body_mask
            if mask not in shown:
                masked = [atom for at, atom in enumerate(atoms) if (mask >> at) & 1 == 1]
                shown[mask] = shows(question, head, body, masked)
            if shown[mask]:
                places = places_in(head_stretch) + places_in(body_stretch)
                found.append((places, head_stretch, body_stretch))
    if not found:
        return None
    _, head_stretch, body_stretch = min(found)
    return (head_stretch, body_stretch)


def places_in(stretch):
    """How many places a stretch has."""
    return stretch[1] - stretch[0]


def least_stretches(row, atoms):
    """For each sum of powers of two, one for each of some atoms, the least stretch of a row that bears them all.

    Sums that no stretch bears are left out. In the place of an atom that does not look at the row stands None.
    """
    ends = {0: list(range(len(row) + 1))}
    for at, atom in enumerate(atoms):
        if atom is not None:
            own = ends_of(row, atom)
            for mask, others in list(ends.items()):
                ends[mask + (1 << at)] = [max(end, other) for end, other in zip(own, others)]
    return {mask: least_stretch(lasts) for mask, lasts in ends.items() if lasts[0] < NEVER}


def ends_of(row, atom):
    """For each place of a row, and the one behind it, the least end of a stretch from it on that bears an atom.

    NEVER if there is none.
    """
    ends = [NEVER]
    for first in range(len(row) - 1, -1, -1):
        farthest = min(first + WIDEST, len(row))
        ends.append(min([ends[-1]] + [last for last in range(first + 1, farthest + 1) if bears(row[first:last], atom)]))
    return ends[::-1]


def least_stretch(lasts):
    """The shortest of the stretches with these ends from each place on, of the shortest ones the first."""
    places, first = min([(last - first, first) for first, last in enumerate(lasts) if last < NEVER])
    return (first, first + places) if places > 0 else EMPTY


def spots(rule, text):
    """For each word of a text the pair of the indexes at which its letters begin and behind which they end."""
    need_rule(rule)
    need_text(text)
    found = []
    parted = True
    for at, sign in enumerate(text):
        letter = rule.becomes(sign)
        if letter is None:
            parted = True
        elif letter and parted:
            found.append((at, at + 1))
            parted = False
        elif letter:
            found[-1] = (found[-1][0], at + 1)
    return tuple(found)


def excerpt(rule, text, stretch):
    """What a text has for a stretch of its row, from the first word's begin to the last one's end."""
    places = spots(rule, text)
    if not is_stretch(stretch, len(places)):
        raise InvalidWindow(stretch)
    if stretch == EMPTY:
        return ""
    first, last = stretch
    return text[places[first][0]:places[last - 1][1]]

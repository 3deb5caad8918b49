"""What one question finds for all rows, and what another one does: by the states that rows can have."""

from plainscan.errors import TooLarge
from plainscan.questions import all_atoms, judged, need_question, need_row, unlike

MOST_STATES = 2000
DONE = (9, 9)
# No named term and no prefix has this sign: behind a prefix it makes a term that is named nowhere.
STRANGE = "~"


def looks_of(question, other):
    """The tuple of the looks of both questions."""
    need_question(question)
    need_question(other)
    return looks_in(question, other)


def looks_in(question, other):
    """The same, of what surely is two questions."""
    return unlike([look_of(atom) for atom in all_atoms(question) + all_atoms(other)])


def look_of(atom):
    """An atom without its field."""
    return (atom[0], *atom[2:])


def first_state(look):
    """The state of a look at the begin of a row."""
    if look[0] == "near":
        return (0, 0)
    return 0


def begin_of(looks):
    """The state of all looks at the begin of a row."""
    return tuple([first_state(look) for look in looks])


def state_behind(look, state, term):
    """The state of a look behind one place more, at which a term stands, or None."""
    if look[0] == "row":
        return row_behind(look[1], state, term)
    if look[0] == "near":
        return near_behind(look, state, term)
    if term is None:
        return state
    came = term == look[1] if look[0] == "word" else term.startswith(look[1])
    return 1 if came else state


def row_behind(terms, state, term):
    """How many terms of a row stand at the last places, or all of them if they have been there."""
    if state == len(terms):
        return state
    stood = (*terms[:state], term)
    return max([many for many in range(len(stood) + 1) if stood[len(stood) - many:] == terms[:many]])


def near_behind(look, state, term):
    """How many places ago both terms stood, or DONE if they have been near."""
    _, first, second, most = look
    if state == DONE:
        return DONE
    if (term == first and state[1] > 0) or (term == second and state[0] > 0):
        return DONE
    return (place_behind(first, state[0], term, most), place_behind(second, state[1], term, most))


def place_behind(named, ago, term, most):
    """How many places ago a named term stood behind one place more, 0 if not in the last places."""
    if term == named:
        return 1
    return ago + 1 if 0 < ago < most else 0


def is_true(look, state):
    """Whether a look is true of a row, told its state."""
    if look[0] == "near":
        return state == DONE
    if look[0] == "row":
        return state == len(look[1])
    return state == 1


def state_of(question, other, row):
    """The state of a row for the looks of both questions."""
    looks = looks_of(question, other)
    need_row(row)
    state = begin_of(looks)
    for term in row:
        state = step(looks, state, term)
    return state


def step(looks, state, term):
    """The state of all looks behind one place more."""
    return tuple([state_behind(look, one, term) for look, one in zip(looks, state)])


def things(looks):
    """What can stand at a place: each named term, and another term for each prefix and for none.

    A place at which nothing stands changes each state as a term does that is named nowhere.
    """
    named = []
    for look in looks:
        if look[0] == "row":
            named.extend(look[1])
        elif look[0] == "near":
            named.extend(look[1:3])
        elif look[0] == "word":
            named.append(look[1])
        else:
            named.append(look[1] + STRANGE)
    return unlike([*named, STRANGE])


def reached(looks):
    """For each state of a row a shortest row that has it, the states in the order of these rows' lengths."""
    terms = things(looks)
    layer = [begin_of(looks)]
    rows = {layer[0]: ()}
    while layer:
        later = []
        for state in layer:
            for term in terms:
                behind = step(looks, state, term)
                if behind not in rows:
                    rows[behind] = (*rows[state], term)
                    later.append(behind)
            if len(rows) > MOST_STATES:
                raise TooLarge(MOST_STATES)
        layer = later
    return rows


def row_states(question, other):
    """The ascending tuple of all states of rows."""
    need_question(question)
    need_question(other)
    return tuple(sorted(reached(looks_in(question, other))))


def finds_no_more(question, other):
    """Whether the other question holds for each pair of rows for which the first one holds."""
    return parting_rows(question, other) is None


def finds_same(question, other):
    """Whether both questions hold for the same pairs of rows."""
    return finds_no_more(question, other) and finds_no_more(other, question)


def parting_rows(question, other):
    """A pair of rows, with as few places as can be, for which the first question holds and the other one does not.

    None if there is none.
    """
    need_question(question)
    need_question(other)
    return parted(question, other, reached(looks_in(question, other)))


def parted(question, other, rows):
    """Such a pair of some rows, each told by its state; None if there is none."""
    atoms = unlike(all_atoms(question) + all_atoms(other))
    looks = looks_in(question, other)
    heads = rows_by_mask(rows, looks, [atom if atom[1] != "body" else None for atom in atoms])
    bodies = rows_by_mask(rows, looks, [atom if atom[1] != "head" else None for atom in atoms])
    parts = {}
    best = None
    for head_mask, head in heads.items():
        for body_mask, body in bodies.items():
            mask = head_mask | body_mask
            if mask not in parts:
                parts[mask] = masked(question, atoms, mask) and not masked(other, atoms, mask)
            if parts[mask] and (best is None or len(head) + len(body) < len(best[0]) + len(best[1])):
                best = (head, body)
    return best


def rows_by_mask(rows, looks, atoms):
    """For each sum of powers of two, one for each atom whose look is true, a shortest row in which just these are.

    In the place of an atom that does not look at the rows stands None.
    """
    bits = [(at, looks.index(look_of(atom))) for at, atom in enumerate(atoms) if atom is not None]
    found = {}
    for state, row in rows.items():
        mask = sum([1 << at for at, place in bits if is_true(looks[place], state[place])])
        if mask not in found:
            found[mask] = row
    return found


def masked(question, atoms, mask):
    """Whether a question holds if just the atoms of a mask do."""
    return judged(question, {atom: (mask >> at) & 1 == 1 for at, atom in enumerate(atoms)})

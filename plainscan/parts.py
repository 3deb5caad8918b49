"""Parts of an index: entries of changes, how they are merged, and what is read from them."""

from plainscan.documents import MOST_CHANGES, is_document, is_key, need_log
from plainscan.errors import Disagree, InvalidEntries, InvalidParts
from plainscan.questions import need_term
from plainscan.values import is_number, is_tuple_of, need_number
from plainscan.words import need_rule

MOST_PARTS = 200


def is_entry(value):
    """Whether a value is an entry: a triple of a key, a stamp, and a document with this key or None."""
    if not is_tuple_of(value, 3, 3):
        return False
    key, stamp, thing = value
    if not is_key(key) or not is_number(stamp, 1, MOST_CHANGES):
        return False
    return thing is None or (is_document(thing) and thing[0] == key)


def need_entries(entries):
    """An error with the first entry that is wrong, or is not above the one before it."""
    if type(entries) is not tuple:
        raise InvalidEntries(None)
    last = (0, 0)
    for at, entry in enumerate(entries):
        if not is_entry(entry) or entry[:2] <= last:
            raise InvalidEntries(at)
        last = entry[:2]


def need_parts(parts):
    """An error with the first one of the parts that is none, or is one too many."""
    if type(parts) is not tuple:
        raise InvalidParts(None)
    for at, part in enumerate(parts):
        if at == MOST_PARTS or not isinstance(part, Part):
            raise InvalidParts(at)


class Part:
    """A row of entries, ascending by key and stamp."""
    def __init__(self, entries=()):
        need_entries(entries)
        self.entries = entries

    def __eq__(self, other):
        return isinstance(other, Part) and self.entries == other.entries

    def __len__(self):
        return len(self.entries)

    def __bool__(self):
        return True

    def __add__(self, other):
        return merged((self, other), 0)


def part_with(entries):
    """The part with what surely are entries."""
    part = Part()
    part.entries = tuple(entries)
    return part


def part_of(log, first, last):
    """The part of the entries of the changes from one number to another one."""
    need_log(log)
    need_number(first, 1, len(log) + 1)
    need_number(last, first - 1, len(log))
    return part_with(sorted(entries_of(log, first, last)))


def part_of_lot(log, first, last, lots, lot):
    """The part of those of such entries that have keys of a lot, of what surely is all this."""
    return part_with(sorted([entry for entry in entries_of(log, first, last) if entry[0] % lots == lot]))


def entries_of(log, first, last):
    """The entries of the changes of a log from one number to another one, by their numbers."""
    entries = []
    for stamp in range(first, last + 1):
        change = log.changes[stamp - 1]
        if change[0] == "put":
            entries.append((change[1][0], stamp, change[1]))
        elif change[0] == "gone":
            entries.append((change[1], stamp, None))
        elif change[0] == "label":
            relabelled = [document for document in log.documents(stamp) if document[0] == change[1]]
            entries.append((change[1], stamp, relabelled[0]))
    return entries


def merged(parts, floor, *, whole=False):
    """The part that comes of some parts, without what no version from a floor on needs."""
    need_parts(parts)
    need_number(floor, 0, MOST_CHANGES)
    entries = joined_entries(parts)
    settled = last_stamps(entries, floor)
    kept = []
    for key, stamp, thing in entries:
        last = settled.get(key, 0)
        # Nothing is older than a mark of what is gone if the part is whole, so no mark is wanted.
        if stamp > last or (stamp == last and not (whole and thing is None)):
            kept.append((key, stamp, thing))
    return part_with(kept)


def joined_entries(parts):
    """All entries of some parts, each once, ascending; at last an error if two of them disagree."""
    things = {}
    clashes = []
    for part in parts:
        for key, stamp, thing in part.entries:
            if (key, stamp) not in things:
                things[(key, stamp)] = thing
            elif things[(key, stamp)] != thing:
                clashes.append((key, stamp))
    if clashes:
        key, stamp = min(clashes)
        raise Disagree(key, stamp)
    return [(key, stamp, things[(key, stamp)]) for key, stamp in sorted(things)]


def last_stamps(entries, number):
    """For each key of some ascending entries its greatest stamp that is not above a number."""
    stamps = {}
    for key, stamp, _ in entries:
        if stamp <= number:
            stamps[key] = stamp
    return stamps


def plain_part(log, floor):
    """The plain part of a log with a floor."""
    need_log(log)
    return merged((part_of(log, 1, len(log)),), floor, whole=True)


def reading(parts, version):
    """The ascending tuple of the documents that some parts read at a version."""
    need_parts(parts)
    need_number(version, 0, MOST_CHANGES)
    return documents_read(parts, version)


def documents_read(parts, version):
    """The same, of what surely is all this but for parts that disagree."""
    read = {}
    for key, stamp, thing in joined_entries(parts):
        if stamp <= version:
            read[key] = thing
    return tuple([read[key] for key in sorted(read) if read[key] is not None])


def term_list(parts, rule, version, term):
    """The ascending tuple of (KEY, HEADS, BODIES) for each document read that has a term, with its places."""
    need_parts(parts)
    need_rule(rule)
    need_number(version, 0, MOST_CHANGES)
    need_term(term)
    return tuple(term_lists(documents_read(parts, version), rule).get(term, []))


def all_terms(parts, rule, version):
    """The ascending tuple of all terms of the documents read."""
    need_parts(parts)
    need_rule(rule)
    need_number(version, 0, MOST_CHANGES)
    return tuple(sorted(term_lists(documents_read(parts, version), rule)))


def term_lists(documents, rule):
    """For each term of some ascending documents the list of (KEY, HEADS, BODIES)."""
    lists = {}
    for key, _, _, head, body in documents:
        heads, bodies = places_by_term(rule.row(head)), places_by_term(rule.row(body))
        for term in sorted(set([*heads, *bodies])):
            lists.setdefault(term, []).append((key, heads.get(term, ()), bodies.get(term, ())))
    return lists


def places_by_term(row):
    """For each term of a row the tuple of its places."""
    places = {}
    for place, term in enumerate(row):
        if term is not None:
            places[term] = (*places.get(term, ()), place)
    return places

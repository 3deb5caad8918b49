"""Desks: a whole search house, whose answers are plain scans of what an asker sees at the count that is told."""

from plainscan.caches import Cache
from plainscan.documents import Log, changed_key, need_key, seen_set
from plainscan.errors import NothingToUndo, Passed, TooMany, UnknownSearch, Unserved
from plainscan.fleets import Fleet, held_counts, need_house, need_lot, numbers_at, readings_in, served_count
from plainscan.hints import begun, need_start, neighbours
from plainscan.kept import true_list
from plainscan.pages import need_place, page_in
from plainscan.parts import merged, part_of_lot, reading
from plainscan.questions import need_question, need_term
from plainscan.ranking import all_ranked, need_rank
from plainscan.rankinglikes import need_traceless
from plainscan.rights import need_asker
from plainscan.scans import rows_of
from plainscan.tallies import need_field, need_span, tally_days, tally_terms
from plainscan.values import is_count, need_count, need_many, need_number
from plainscan.windows import excerpt, least_window
from plainscan.words import need_rule

MOST_SEARCHES = 6


def opposite(log, number):
    """The change that takes back the one with a number, behind which all others have been taken back."""
    change = log.changes[number - 1]
    if change[0] == "policy":
        return ("policy", log.policy(number - 1).rights)
    key = changed_key(change)
    former = [document for document in log.documents(number - 1) if document[0] == key]
    if not former:
        return ("gone", key)
    if change[0] == "label":
        return ("label", key, former[0][2])
    return ("put", former[0])


class Held:
    """What a desk was at the begin of a trial's block; outer is the same of the block around it."""
    def __init__(self, desk, outer):
        self.outer = outer
        self.log = desk.log
        self.copies = desk.copies
        self.lost = desk.lost
        self.marks = desk.marks
        self.searches = desk.searches
        # Fleets and caches change by themselves, all else of a desk is replaced as a whole.
        self.fleet = desk._fleet.copied()
        self.cache = desk._cache.copied()
        self.parts = desk._parts
        self.undoable = desk._undoable
        self.kept = desk._kept
        self.coming = desk._coming


class Trial:
    """Leads a desk back to what it was, if the block of a with statement ends with an exception."""
    def __init__(self, desk):
        self.desk = desk
        self.held = None

    def __enter__(self):
        self.held = Held(self.desk, self.held)
        return self.desk

    def __exit__(self, kind, value, trace):
        desk = self.desk
        if kind is not None:
            desk.log = self.held.log
            desk.copies = self.held.copies
            desk.lost = self.held.lost
            desk.marks = self.held.marks
            desk.searches = self.held.searches
            desk._fleet = self.held.fleet
            desk._cache = self.held.cache
            desk._parts = self.held.parts
            desk._undoable = self.held.undoable
            desk._kept = self.held.kept
            desk._coming = self.held.coming
        self.held = self.held.outer


class Desk:
    """A word rule, a log, a fleet, a cache and kept searches."""
    def __init__(self, rule, *, lots=1, houses=1, cache=0):
        need_rule(rule)
        self._rule = rule
        self._fleet = Fleet(lots, houses)
        self._cache = Cache(cache)
        self.log = Log()
        self.copies = ()
        self.lost = ()
        self.marks = ()
        self.searches = ()
        # For each copy its parts, without empty ones.
        self._parts = {}
        # The numbers of the changes that can be taken back.
        self._undoable = ()
        # For each kept search (ASKER, QUESTION, BEGUN, COME): the counts with which it began and to which it has come.
        self._kept = {}
        # The number of the search that is begun next.
        self._coming = 0

    def __len__(self):
        return len(self.log.changes)

    def __bool__(self):
        return True

    def put(self, document):
        """Puts a document, perhaps in the place of one with the same key."""
        self._change(("put", document))

    def gone(self, key):
        """Withdraws a document."""
        self._change(("gone", key))

    def label(self, key, labels):
        """Gives a document other labels."""
        self._change(("label", key, labels))

    def policy(self, rights):
        """Lets other rights hold."""
        self._change(("policy", rights))

    def undo(self):
        """Takes back the last change that has not been taken back, by a further one."""
        if not self._undoable:
            raise NothingToUndo()
        self.log = self.log.then(opposite(self.log, self._undoable[-1]))
        self._undoable = self._undoable[:-1]

    def place(self, house, lot):
        """Places an empty copy of a lot in a house."""
        self._fleet.place(house, lot)
        self._parts = {**self._parts, (house, lot): ()}
        self._show_fleet()

    def ship(self, house, lot, number):
        """Ships the log's entries to a copy, up to a number, as one further part."""
        self._need_place(house, lot)
        need_number(number, 0, len(self.log))
        _, applied = numbers_at(self._fleet, house, lot)
        self._fleet.ship(house, lot, number)
        further = part_of_lot(self.log, applied + 1, number, self._fleet.lots, lot)
        self._keep_parts(house, lot, (*self._parts[(house, lot)], further))
        self._show_fleet()

    def clean(self, house, lot, number):
        """Makes a number the floor of a copy, and leaves its parts as they are."""
        self._need_place(house, lot)
        need_number(number, 0, len(self.log))
        self._fleet.clean(house, lot, number)
        self._show_fleet()

    def lose(self, house):
        """Loses a house with all its copies."""
        self._fleet.lose(house)
        self._parts = {where: parts for where, parts in self._parts.items() if where[0] != house}
        self._show_fleet()

    def back(self, house):
        """Takes a lost house back, without copies."""
        self._fleet.back(house)
        self._show_fleet()

    def move(self, house, lot, target):
        """Moves a copy with its parts to another house."""
        self._fleet.move(house, lot, target)
        others = {where: parts for where, parts in self._parts.items() if where != (house, lot)}
        self._parts = {**others, (target, lot): self._parts[(house, lot)]}
        self._show_fleet()

    def merge(self, house, lot):
        """Makes one part of the parts of a copy, with the copy's floor."""
        self._need_place(house, lot)
        floor, _ = numbers_at(self._fleet, house, lot)
        self._keep_parts(house, lot, (merged(self._parts[(house, lot)], floor, whole=True),))

    def parts_of(self, house, lot):
        """The parts of a copy in the order in which they came, without empty ones."""
        self._need_place(house, lot)
        numbers_at(self._fleet, house, lot)
        return self._parts[(house, lot)]

    def ask(self, asker, question, rank, many, *, least=0):
        """The pair of the served count and of the first many rows of the plain scan at it."""
        need_asker(asker)
        need_question(question)
        need_rank(rank)
        need_many(many)
        need_count(least)
        need_traceless(rank)
        count, seen = self._served(asker, least)
        mark = (seen, question, rank.parts, many)
        rows = self._cache.find(mark)
        if rows is None:
            rows = self._scanned(seen, question, rank)[:many]
            self._cache.keep(mark, rows)
        self.marks = self._cache.marks
        return (count, rows)

    def page(self, asker, question, rank, many, *, place=None, least=0):
        """The page of a plain scan at a place, at the begin of the one at the served count for None."""
        need_asker(asker)
        need_question(question)
        need_rank(rank)
        need_many(many)
        if place is not None:
            need_place(place)
        need_count(least)
        need_traceless(rank)
        if place is None:
            count, seen = self._served(asker, least)
            return page_in(self._scanned(seen, question, rank), (count, 0), many)
        count, _ = place
        if count < self.log.fence(asker) or count not in held_counts(self._fleet, self.log, asker):
            raise Passed(count)
        return page_in(self._scanned(self._seen_at(asker, count), question, rank), place, many)

    def begun(self, asker, start, many, *, least=0):
        """The pair of the served count and of the first many terms of the seen set that begin with a string."""
        need_asker(asker)
        need_start(start)
        need_many(many)
        need_count(least)
        count, seen = self._served(asker, least)
        return (count, begun(rows_of(seen, self._rule), start, many))

    def neighbours(self, asker, term, many, *, least=0):
        """The pair of the served count and of the first many neighbours of a term in the seen set."""
        need_asker(asker)
        need_term(term)
        need_many(many)
        need_count(least)
        count, seen = self._served(asker, least)
        return (count, neighbours(rows_of(seen, self._rule), term, many))

    def why(self, asker, question, key, *, least=0):
        """The pair of the served count and of the excerpts that show why a document is found, None if it is not."""
        need_asker(asker)
        need_question(question)
        need_key(key)
        need_count(least)
        count, seen = self._served(asker, least)
        for other, _, head, body in seen:
            if other == key:
                return (count, self._excerpts(question, head, body))
        return (count, None)

    def tally_days(self, asker, question, span, *, least=0):
        """The pair of the served count and of the tallies of the seen set by days."""
        need_asker(asker)
        need_question(question)
        need_span(span)
        need_count(least)
        count, seen = self._served(asker, least)
        return (count, tally_days(rows_of(seen, self._rule), question, span))

    def tally_terms(self, asker, question, field, many, *, least=0):
        """The pair of the served count and of the first many of the tallies of the seen set by terms."""
        need_asker(asker)
        need_question(question)
        need_field(field)
        need_many(many)
        need_count(least)
        count, seen = self._served(asker, least)
        return (count, tally_terms(rows_of(seen, self._rule), question, field)[:many])

    def watch(self, asker, question):
        """Begins a kept search at the served count, and returns its number."""
        need_asker(asker)
        need_question(question)
        count = served_count(self._fleet, self.log, asker, 0)
        if count is None:
            raise Unserved()
        if len(self._kept) == MOST_SEARCHES:
            raise TooMany(MOST_SEARCHES)
        number = self._coming
        self._kept = {**self._kept, number: (asker, question, count, count)}
        self._coming = number + 1
        self._show_searches()
        return number

    def drop(self, number):
        """Ends a kept search."""
        self._need_search(number)
        self._kept = {other: told for other, told in self._kept.items() if other != number}
        self._show_searches()

    def tells(self, number):
        """The pair of the count with which a kept search began, and of its tells up to the count it has come to."""
        self._need_search(number)
        asker, question, first, come = self._kept[number]
        come = max([come, *held_counts(self._fleet, self.log, asker)])
        self._kept = {**self._kept, number: (asker, question, first, come)}
        tells = true_list(self.log, self._rule, asker, question, first)
        return (first, tuple([tell for tell in tells if tell[1] <= come]))

    def trial(self):
        """What a with statement takes, for a block that changes nothing if it ends with an exception."""
        return Trial(self)

    def tried(self, action):
        """Calls a function with the desk in such a block, and returns what it returns."""
        with self.trial() as desk:
            return action(desk)

    def _change(self, change):
        self.log = self.log.then(change)
        self._undoable = (*self._undoable, len(self.log))

    def _need_place(self, house, lot):
        need_house(house, self._fleet.houses)
        need_lot(lot, self._fleet.lots)

    def _need_search(self, number):
        if not is_count(number) or number not in self._kept:
            raise UnknownSearch(number)

    def _keep_parts(self, house, lot, parts):
        self._parts = {**self._parts, (house, lot): tuple([part for part in parts if len(part) > 0])}

    def _show_fleet(self):
        self.copies = self._fleet.copies
        self.lost = self._fleet.lost

    def _show_searches(self):
        self.searches = tuple([(number, asker, question) for number, (asker, question, _, _) in self._kept.items()])

    def _served(self, asker, least):
        count = served_count(self._fleet, self.log, asker, least)
        if count is None:
            raise Unserved()
        return (count, self._seen_at(asker, count))

    def _seen_at(self, asker, count):
        seen = []
        # Each lot may be read at a version of its own: what is seen of it is the same at all versions of the count.
        readings = readings_in(self._fleet, self.log.versions(count, asker))
        for lot, (house, version) in enumerate(readings):
            read = reading(self._parts[(house, lot)], version)
            seen.extend(seen_set(read, self.log.policy(version), asker))
        return tuple(sorted(seen))

    def _scanned(self, seen, question, rank):
        return all_ranked(rows_of(seen, self._rule), (), question, rank)

    def _excerpts(self, question, head, body):
        window = least_window(question, self._rule.row(head), self._rule.row(body))
        if window is None:
            return None
        return (excerpt(self._rule, head, window[0]), excerpt(self._rule, body, window[1]))

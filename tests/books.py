"""A desk kept plainly: all that is told of it comes of a replay of its changes from nothing."""

import copy

from plainscan import errors
from plainscan.documents import is_change
from plainscan.questions import is_term
from plainscan.windows import excerpt, least_window
from tests.test_caches import Plain
from tests.test_documents import drawn_changes, drawn_labels, drawn_rights, plain_counts, replayed
from tests.test_fleets import Books, drawn_deed, plain_fence, plain_held, plain_served
from tests.test_hints import made_of, plain_hints
from tests.test_kept import numbered, plain_found, plain_notes
from tests.test_parts import plain_entries, plain_merged
from tests.test_questions import plain_holds
from tests.test_ranking import plain_scan
from tests.test_rankinglikes import plain_blind
from tests.test_scans import rows_of
from tests.test_tallies import plain_days, plain_terms
from tests.test_words import ALL_SIGNS

CHANGES = ("put", "gone", "label", "policy")


class Model:
    def __init__(self, rule, lots=1, houses=1, cache=0):
        self.rule, self.lots, self.houses = rule, lots, houses
        self.changes, self.states = [], []
        self.fleet = Books(lots, houses)
        self.parts = {}
        self.cache = Plain(cache)
        self.searches, self.next = {}, 0

    def shown(self):
        """All that a desk shows of what it is."""
        parts = {place: tuple(tuple(part) for part in parts) for place, parts in self.parts.items()}
        searches = tuple((number, asker, question) for number, (asker, question, _, _) in sorted(self.searches.items()))
        return (tuple(self.changes), self.fleet.copies(), self.fleet.lost(), tuple(mark for mark, _ in self.cache.kept), searches, parts)

    def copied(self):
        return copy.deepcopy(self)

    # Deeds: each returns what the desk returns, or the pair of an error's class and of what it tells.

    def do(self, deed, *args):
        if deed in CHANGES:
            return self.change((deed, *args))
        return getattr(self, f"do_{deed}")(*args) if hasattr(self, f"do_{deed}") else self.turn(deed, args)

    def change(self, change):
        if not is_change(change):
            return errors.InvalidChange, {"given": change}
        documents, rights = replayed(self.changes)[-1]
        if change[0] in ("gone", "label") and change[1] not in [document[0] for document in documents]:
            return errors.UnknownKey, {"given": change[1]}
        if len(self.changes) == 200:
            return errors.TooMany, {"given": 201}
        self.changes.append(change)
        self.states.append((change, documents, rights))
        return None

    def do_undo(self):
        if not self.states:
            return errors.NothingToUndo, {}
        if len(self.changes) == 200:
            return errors.TooMany, {"given": 201}
        (kind, *told), documents, rights = self.states.pop()
        if kind == "policy":
            self.changes.append(("policy", rights))
        else:
            key = told[0][0] if kind == "put" else told[0]
            there = {document[0]: document for document in documents}
            opposite = ("gone", key) if key not in there else ("put", there[key])
            self.changes.append(("label", key, there[key][2]) if kind == "label" else opposite)
        # Behind it documents, labels and rights are those that were there before that change.
        assert replayed(self.changes)[-1] == (documents, rights)
        return None

    def turn(self, deed, args):
        applied = [copied[3] for copied in self.fleet.copies() if copied[:2] == tuple(args[:2])]
        error = self.fleet.do(deed, args, len(self.changes))
        if error is not None:
            return error
        if deed == "place":
            self.parts[args] = []
        elif deed == "ship":
            house, lot, number = args
            entries = [entry for entry in plain_entries(self.changes) if applied[0] < entry[1] <= number and entry[0] % self.lots == lot]
            self.parts[house, lot] = self.parts[house, lot] + [entries] * (entries != [])
        elif deed == "move":
            self.parts[args[2], args[1]] = self.parts.pop(args[:2])
        elif deed == "lose":
            self.parts = {place: parts for place, parts in self.parts.items() if place[0] != args[0]}
        return None

    def do_merge(self, house, lot):
        error = self.absent(house, lot)
        if error is None:
            floor = self.fleet.there[house][lot][0]
            entries = plain_merged([entry for part in self.parts[house, lot] for entry in part], floor, True)
            self.parts[house, lot] = [entries] * (entries != ())
        return error

    def absent(self, house, lot):
        wrong = self.fleet.wrong("hl", (house, lot), 0) or self.fleet.due("ship", (house, lot, 999))
        return None if wrong is None else (wrong[0], {"given": wrong[1]})

    def parts_of(self, house, lot):
        return self.absent(house, lot) or tuple(tuple(part) for part in self.parts[house, lot])

    # What an asker sees.

    def seen(self, asker):
        return plain_counts(replayed(self.changes), asker)

    def fence(self, asker):
        return plain_fence(*self.seen(asker))

    def held(self, asker):
        return plain_held(self.fleet.copies(), self.lots, self.seen(asker)[1])

    def served(self, asker, least=0):
        """The served count with the documents as seen at it, None if there is none."""
        seen, counts = self.seen(asker)
        count = plain_served(self.fleet.copies(), self.lots, counts, plain_fence(seen, counts), least)
        return None if count is None else (count, seen[counts.index(count)])

    def of_served(self, asker, least, told):
        served = self.served(asker, least)
        if served is None:
            return errors.Unserved, {}
        return served[0], told(rows_of(served[1], self.rule))

    def ask(self, asker, question, rank, many, least=0):
        if not plain_blind(rank) and rank[5] == "all":
            return errors.Trace, {}
        answer = self.of_served(asker, least, lambda rows: plain_scan(rows, (), question, rank, many))
        if answer[0] is not errors.Unserved:
            self.cache.use((self.served(asker, least)[1], question, rank, many), answer[1])
        return answer

    def page(self, asker, question, rank, many, place=None, least=0):
        if not plain_blind(rank) and rank[5] == "all":
            return errors.Trace, {}
        if place is None:
            served = self.served(asker, least)
            if served is None:
                return errors.Unserved, {}
            place = (served[0], 0)
        count, at = place
        if count not in self.held(asker) or count < self.fence(asker):
            return errors.Passed, {"given": count}
        seen, counts = self.seen(asker)
        rows = plain_scan(rows_of(seen[counts.index(count)], self.rule), (), question, rank, 1000)
        told = rows[at:at + many]
        return (count, at + len(told)), told, at + many < len(rows)

    def begun(self, asker, start, many, least=0):
        return self.of_served(asker, least, lambda rows: plain_hints(rows, lambda term: term.find(start) == 0, many))

    def neighbours(self, asker, term, many, least=0):
        assert is_term(term)
        near = made_of(term, ALL_SIGNS)
        return self.of_served(asker, least, lambda rows: plain_hints(rows, near.__contains__, many))

    def why(self, asker, question, key, least=0):
        served = self.served(asker, least)
        if served is None:
            return errors.Unserved, {}
        for document, (_, _, head, body) in zip(served[1], rows_of(served[1], self.rule)):
            if document[0] == key and plain_holds(question, head, body):
                window = least_window(question, head, body)
                return served[0], tuple(excerpt(self.rule, text, stretch) for text, stretch in zip(document[2:], window))
        return served[0], None

    def tally_days(self, asker, question, span, least=0):
        return self.of_served(asker, least, lambda rows: plain_days(rows, question, span))

    def tally_terms(self, asker, question, field, many, least=0):
        return self.of_served(asker, least, lambda rows: plain_terms(rows, question, field)[:many])

    # Kept searches.

    def watch(self, asker, question):
        served = self.served(asker)
        if served is None:
            return errors.Unserved, {}
        if len(self.searches) == 6:
            return errors.TooMany, {"given": 6}
        self.searches[self.next] = [asker, question, served[0], served[0]]
        self.next += 1
        return self.next - 1

    def do_drop(self, number):
        if type(number) is not int or number not in self.searches:
            return errors.UnknownSearch, {"given": number}
        del self.searches[number]
        return None

    def tells(self, number):
        if type(number) is not int or number not in self.searches:
            return errors.UnknownSearch, {"given": number}
        asker, question, first, come = self.searches[number]
        come = max(come, *self.held(asker), 0)
        self.searches[number][3] = come
        return first, numbered(plain_notes(plain_found(self.changes, self.rule, asker, question), first, come))


def shown(desk, lots, houses):
    """All that a desk shows of what it is, the entries of the parts of its copies with it."""
    parts = {(house, lot): tuple(part.entries for part in desk.parts_of(house, lot)) for house, lot, _, _ in desk.copies}
    return desk.log.changes, desk.copies, desk.lost, desk.marks, desk.searches, parts


def drawn_change(draw, model, texts, keys=5):
    """A drawn change that mostly fits."""
    kind = draw.choice(("put", "put", "put", "gone", "label", "policy"))
    there = [document[0] for document in replayed(model.changes)[-1][0]]
    key = draw.choice(there) if there and draw.random() < 0.9 else draw.choice((*range(1, keys + 1), 0, True, "1"))
    if kind == "put":
        return kind, (draw.choice((*range(1, keys + 1), 1000)), draw.randint(0, 3), drawn_labels(draw), *texts(draw))
    if kind == "gone":
        return kind, key
    return (kind, key, drawn_labels(draw)) if kind == "label" else (kind, draw.choice((drawn_rights(draw), drawn_rights(draw), 5)))


def drawn_turn(draw, model, texts):
    """A drawn deed of any kind with its arguments, some of which are wrong."""
    kind = draw.choice(("change", "change", "undo", "fleet", "fleet", "fleet", "ship", "ship", "merge", "drop"))
    if kind == "change":
        return drawn_change(draw, model, texts)
    if kind == "undo":
        return ("undo",)
    if kind == "merge":
        return "merge", draw.choice((*range(model.houses), -1, True)), draw.choice((*range(model.lots), 4))
    if kind == "drop":
        return "drop", draw.choice((*model.searches, True, -1, None, model.next))
    newest = len(model.changes)
    if kind == "ship" and model.fleet.copies():
        house, lot, floor, applied = draw.choice(model.fleet.copies())
        return draw.choice((("ship", house, lot, newest), ("ship", house, lot, draw.randint(applied, newest)),
                            ("clean", house, lot, draw.randint(floor, applied))))
    deed, args = drawn_deed(draw, model.lots, model.houses, range(newest + 2))
    if deed == "lose" and draw.random() < 0.6:
        deed, args = "back", args
    return deed, *args


def settle(desk, model, draw, texts, many):
    """Puts drawn documents, and copies of all lots that have most of the changes."""
    for change in drawn_changes(draw, many, 6, texts):
        desk_do(desk, change[0], *change[1:])
        model.do(*change)
    for lot in range(model.lots):
        for house in draw.sample(range(model.houses), draw.randint(1, model.houses)):
            for deed in (("place", house, lot), ("ship", house, lot, draw.randint(many // 2, many)), ("ship", house, lot, many)):
                if deed[0] == "place" or draw.random() < 0.8:
                    desk_do(desk, *deed)
                    model.do(*deed)


def desk_do(desk, name, *args):
    return getattr(desk, name)(*args)

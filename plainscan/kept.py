"""Kept searches: what came, went and is new at each count; notes of lots, joined; and receivers of tells."""

from plainscan.documents import is_key, need_log
from plainscan.errors import Clash, InvalidNotes, InvalidTell
from plainscan.fleets import need_lot, need_lots
from plainscan.questions import holds_for, need_question
from plainscan.rights import need_asker
from plainscan.values import is_from_one, is_one_of, is_tuple_of, need_count
from plainscan.words import need_rule

CAME = "came"
WENT = "went"
NEW = "new"


def true_list(log, rule, asker, question, first):
    """The tells (NUMBER, COUNT, WORD, KEY) of all counts above a first one."""
    need_log(log)
    need_rule(rule)
    need_asker(asker)
    need_question(question)
    need_count(first)
    # A count that no version has is an error of its own.
    log.versions(first, asker)
    return numbered(notes_between(log, rule, asker, question, first, log.count(len(log), asker)))


def notes_of(log, rule, asker, question, first, last, lots, lot):
    """The notes (COUNT, WORD, KEY) of a lot about the counts above a first one and up to a last one."""
    need_log(log)
    need_rule(rule)
    need_asker(asker)
    need_question(question)
    need_count(first)
    need_count(last)
    need_lots(lots)
    need_lot(lot, lots)
    log.versions(first, asker)
    log.versions(last, asker)
    notes = notes_between(log, rule, asker, question, first, last)
    return tuple([note for note in notes if note[2] % lots == lot])


def notes_between(log, rule, asker, question, first, last):
    """The notes of all keys about such counts, by the count, then by the key."""
    truths = {}
    notes = []
    before = found_set(log, rule, asker, question, first, truths)
    for count in range(first + 1, last + 1):
        behind = found_set(log, rule, asker, question, count, truths)
        notes.extend([(count, *turn) for turn in turns(before, behind)])
        before = behind
    return notes


def found_set(log, rule, asker, question, count, truths):
    """The documents as seen at a count for which a question holds, by their keys.

    Of the documents in truths it is known already whether it does, the others are put there.
    """
    version, _ = log.versions(count, asker)
    found = {}
    for document in log.seen(version, asker):
        key, _, head, body = document
        if document not in truths:
            truths[document] = holds_for(question, rule.row(head), rule.row(body))
        if truths[document]:
            found[key] = document
    return found


def turns(before, behind):
    """The pairs (WORD, KEY) of what is unlike in two found sets, by the key."""
    told = []
    for key in sorted(set([*before, *behind])):
        if key not in before:
            told.append((CAME, key))
        elif key not in behind:
            told.append((WENT, key))
        elif before[key] != behind[key]:
            told.append((NEW, key))
    return told


def numbered(notes):
    """The tuple of the tells of notes in their order."""
    return tuple([(number, *note) for number, note in enumerate(notes, start=1)])


def is_note(value):
    """Whether a value is a note."""
    if not is_tuple_of(value, 3, 3):
        return False
    count, word, key = value
    return is_from_one(count) and is_one_of(word, (CAME, WENT, NEW)) and is_key(key)


def is_tell(value):
    """Whether a value is a tell."""
    return is_tuple_of(value, 4, 4) and is_from_one(value[0]) and is_note(value[1:])


def joined(rows):
    """The tells of joined notes: all of them, each once, by the count, then by the key."""
    if type(rows) is not tuple:
        raise InvalidNotes(None)
    words = {}
    for at, notes in enumerate(rows):
        if type(notes) is not tuple or not all([is_note(note) for note in notes]):
            raise InvalidNotes(at)
        for count, word, key in notes:
            if words.setdefault((count, key), word) != word:
                raise InvalidNotes(at)
    return numbered([(count, words[(count, key)], key) for count, key in sorted(words)])


def keys_behind(keys, tells):
    """The ascending tuple of the keys behind tells that are done to some keys."""
    there = {key: True for key in keys}
    for _, _, word, key in tells:
        if word == WENT:
            there.pop(key, None)
        else:
            there[key] = True
    return tuple(sorted(there))


class Receiver:
    """Takes tells as they come, and tells each number once, behind all lesser ones."""
    def __init__(self):
        self.told = ()
        self.waiting = ()
        # All tells that have come, by their numbers.
        self._come = {}

    def take(self, tell):
        """Takes a tell, and returns the tuple of those that are told now."""
        if not is_tell(tell):
            raise InvalidTell(tell)
        number = tell[0]
        if self._come.get(number, tell) != tell:
            raise Clash(number)
        if number in self._come:
            return ()
        self._come[number] = tell
        ready = []
        following = len(self.told) + 1
        while following in self._come:
            ready.append(self._come[following])
            following += 1
        self.told = (*self.told, *ready)
        self.waiting = tuple(sorted([*self.waiting, tell])[len(ready):])
        return tuple(ready)

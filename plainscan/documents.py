"""Documents, changes, and logs of changes with what each asker sees at each version."""

from plainscan.errors import InvalidChange, InvalidChanges, InvalidNumber, NotALog, TooMany, UnknownKey
from plainscan.rights import Policy, is_labels, is_rights, need_asker
from plainscan.values import is_number, is_one_of, is_text, is_tuple_of, need_count, need_number

LARGEST_KEY = 999
LARGEST_DAY = 9999
MOST_CHANGES = 200


def is_key(value):
    """Whether a value is a key."""
    return is_number(value, 1, LARGEST_KEY)


def need_key(value):
    """An error for what is no key."""
    if not is_key(value):
        raise InvalidNumber(value)


def is_day(value):
    """Whether a value is a day."""
    return is_number(value, 0, LARGEST_DAY)


def is_document(value):
    """Whether a value is a document."""
    if not is_tuple_of(value, 5, 5):
        return False
    key, day, labels, head, body = value
    return is_key(key) and is_day(day) and is_labels(labels) and is_text(head) and is_text(body)


def is_change(value):
    """Whether a value is a change of a log."""
    if is_tuple_of(value, 3, 3):
        return is_one_of(value[0], ("label",)) and is_key(value[1]) and is_labels(value[2])
    if not is_tuple_of(value, 2, 2):
        return False
    kind, told = value
    if is_one_of(kind, ("put",)):
        return is_document(told)
    if is_one_of(kind, ("gone",)):
        return is_key(told)
    return is_one_of(kind, ("policy",)) and is_rights(told)


def changed_key(change):
    """The key of a change of documents, None for one of the policy."""
    if change[0] == "policy":
        return None
    if change[0] == "put":
        return change[1][0]
    return change[1]


def wants_unknown(change, documents):
    """Whether a change is about a document that should be there and is not."""
    if change[0] not in ("gone", "label"):
        return False
    return not any([document[0] == change[1] for document in documents])


def documents_behind(change, documents):
    """The ascending tuple of the documents behind a change of such a tuple."""
    key = changed_key(change)
    if key is None:
        return documents
    others = [document for document in documents if document[0] != key]
    if change[0] == "gone":
        return tuple(others)
    if change[0] == "put":
        return tuple(sorted(others + [change[1]]))
    former = [document for document in documents if document[0] == key][0]
    return tuple(sorted(others + [relabelled(former, change[2])]))


def relabelled(document, labels):
    """A document with other labels."""
    key, day, _, head, body = document
    return (key, day, labels, head, body)


def policy_behind(change, policy):
    """The policy behind a change."""
    if change[0] == "policy":
        return Policy(change[1])
    return policy


def seen_set(documents, policy, asker):
    """The documents as seen of those that an asker sees by a policy."""
    seen = []
    known = {}
    for key, day, labels, head, body in documents:
        if labels not in known:
            known[labels] = policy.sees(labels, asker)
        if known[labels]:
            seen.append((key, day, head, body))
    return tuple(seen)


def sight_behind(sight, seen):
    """What an asker has seen, as a triple (SEEN SET, OWN COUNT, FENCE), behind a version with a seen set."""
    before, count, fence = sight
    if seen == before:
        return sight
    kept = {document[0]: True for document in seen}
    if all([document[0] in kept for document in before]):
        return (seen, count + 1, fence)
    return (seen, count + 1, count + 1)


def need_log(log):
    """An error for what is no log."""
    if not isinstance(log, Log):
        raise NotALog(log)


class Log:
    """A row of changes, with what is there behind each of them."""
    def __init__(self, changes=()):
        if type(changes) is not tuple:
            raise InvalidChanges(None)
        documents, policy = (), Policy(())
        self._versions = [(documents, policy)]
        for at, change in enumerate(changes):
            if at == MOST_CHANGES or not is_change(change) or wants_unknown(change, documents):
                raise InvalidChanges(at)
            documents, policy = documents_behind(change, documents), policy_behind(change, policy)
            self._versions.append((documents, policy))
        self.changes = changes
        self._sights = {}

    def __eq__(self, other):
        return isinstance(other, Log) and self.changes == other.changes

    def __len__(self):
        return len(self.changes)

    def __bool__(self):
        return True

    def then(self, change):
        """The log with one change more."""
        if not is_change(change):
            raise InvalidChange(change)
        documents, policy = self._versions[-1]
        if wants_unknown(change, documents):
            raise UnknownKey(changed_key(change))
        if len(self.changes) == MOST_CHANGES:
            raise TooMany(MOST_CHANGES + 1)
        # What is there behind the former changes need not be found out again.
        longer = Log()
        longer.changes = (*self.changes, change)
        longer._versions = [*self._versions, (documents_behind(change, documents), policy_behind(change, policy))]
        return longer

    def documents(self, version):
        """The ascending tuple of the documents at a version."""
        need_number(version, 0, len(self.changes))
        return self._versions[version][0]

    def policy(self, version):
        """The policy at a version."""
        need_number(version, 0, len(self.changes))
        return self._versions[version][1]

    def seen(self, version, asker):
        """The ascending tuple of the seen set of an asker at a version."""
        need_number(version, 0, len(self.changes))
        need_asker(asker)
        return self._sights_of(asker)[version][0]

    def count(self, version, asker):
        """The own count of an asker at a version."""
        need_number(version, 0, len(self.changes))
        need_asker(asker)
        return self._sights_of(asker)[version][1]

    def versions(self, count, asker):
        """The pair of the first and the last version with an own count of an asker."""
        need_count(count)
        need_asker(asker)
        found = [version for version, sight in enumerate(self._sights_of(asker)) if sight[1] == count]
        if not found:
            raise InvalidNumber(count)
        return (found[0], found[-1])

    def fence(self, asker):
        """The own count at the last version at which a key was taken from an asker, 0 if none was."""
        need_asker(asker)
        return self._sights_of(asker)[-1][2]

    def _sights_of(self, asker):
        if asker not in self._sights:
            sights = [((), 0, 0)]
            for documents, policy in self._versions[1:]:
                sights.append(sight_behind(sights[-1], seen_set(documents, policy, asker)))
            self._sights[asker] = sights
        return self._sights[asker]

"""Guards, askers, labels and policies: who may see what."""

from plainscan.errors import InvalidAsker, InvalidGuard, InvalidLabels, InvalidRights, NotAPolicy
from plainscan.values import SMALL_LETTERS, is_made_of, is_one_of, is_tuple_of

BADGES = "abcdef"
MOST_INSIDE = 6
MOST_NODES = 12
MOST_LEVELS = 4
MOST_LABELS = 4
LONGEST_LABEL = 8
MOST_RIGHTS = 6


def is_guard(value):
    """Whether a value is a guard."""
    nodes = guard_nodes(value, MOST_LEVELS)
    return nodes is not None and nodes <= MOST_NODES


def guard_nodes(value, levels):
    """How many nodes a guard with so many levels at most has, None for what is no such guard."""
    if levels == 0 or not is_tuple_of(value, 2, 2):
        return None
    if is_one_of(value[0], ("badge",)) and is_made_of(value[1], BADGES, 1, 1):
        return 1
    inside = guards_inside(value)
    if inside is None:
        return None
    nodes = 1
    for guard in inside:
        more = guard_nodes(guard, levels - 1)
        if more is None:
            return None
        nodes += more
    return nodes


def guards_inside(value):
    """What stands in a pair as the guards inside a guard, None if nothing can."""
    if is_one_of(value[0], ("not",)):
        return (value[1],)
    if is_one_of(value[0], ("all", "any")) and is_tuple_of(value[1], 0, MOST_INSIDE):
        return value[1]
    return None


def is_asker(value):
    """Whether a value is an asker."""
    return is_made_of(value, BADGES, 0, len(BADGES)) and is_ascending(value)


def is_labels(value):
    """Whether a value is labels."""
    return is_tuple_of(value, 0, MOST_LABELS) and all([is_label(label) for label in value]) and is_ascending(value)


def is_label(value):
    """Whether a value is a label."""
    return is_made_of(value, SMALL_LETTERS, 1, LONGEST_LABEL)


def is_ascending(strings):
    """Whether each of some strings is greater than the one before it."""
    return all([strings[at] < strings[at + 1] for at in range(len(strings) - 1)])


def need_asker(asker):
    """An error for what is no asker."""
    if not is_asker(asker):
        raise InvalidAsker(asker)


def need_labels(labels):
    """An error for what is no labels."""
    if not is_labels(labels):
        raise InvalidLabels(labels)


def need_policy(policy):
    """An error for what is no policy."""
    if not isinstance(policy, Policy):
        raise NotAPolicy(policy)


def wrong_right(rights):
    """The index of the first wrong one in a tuple of rights, None if none is wrong."""
    last = ""
    for at, right in enumerate(rights):
        if at == MOST_RIGHTS or not is_right(right) or right[0] <= last:
            return at
        last = right[0]
    return None


def is_right(value):
    """Whether a value is a pair (LABEL, GUARD)."""
    return is_tuple_of(value, 2, 2) and is_label(value[0]) and is_guard(value[1])


def is_rights(value):
    """Whether a value is rights."""
    return type(value) is tuple and wrong_right(value) is None


def is_open(guard, asker):
    """Whether a guard is open for an asker."""
    if not is_guard(guard):
        raise InvalidGuard(guard)
    need_asker(asker)
    return opens(guard, asker)


def opens(guard, asker):
    """The same, of what surely is a guard and an asker."""
    kind, inner = guard
    if kind == "badge":
        return inner in asker
    if kind == "not":
        return not opens(inner, asker)
    if kind == "all":
        return all([opens(part, asker) for part in inner])
    return any([opens(part, asker) for part in inner])


def all_askers():
    """The ascending tuple of all askers."""
    askers = [""]
    for badge in BADGES:
        askers = askers + [asker + badge for asker in askers]
    return tuple(sorted(askers))


class Policy:
    """Who sees which labels, by rights."""
    def __init__(self, rights):
        if type(rights) is not tuple:
            raise InvalidRights(None)
        wrong = wrong_right(rights)
        if wrong is not None:
            raise InvalidRights(wrong)
        self.rights = rights

    def __eq__(self, other):
        return isinstance(other, Policy) and self.rights == other.rights

    def sees(self, labels, asker):
        """Whether an asker sees labels."""
        need_labels(labels)
        need_asker(asker)
        return self._shows(labels, asker)

    def askers(self, labels):
        """The ascending tuple of all askers that see labels."""
        need_labels(labels)
        return tuple([asker for asker in all_askers() if self._shows(labels, asker)])

    def _shows(self, labels, asker):
        shown = [label for label, guard in self.rights if label in labels and opens(guard, asker)]
        return len(shown) == len(labels)


def shows_no_more(policy, other):
    """Whether each asker that sees some labels by the first policy sees them by the other one."""
    return parting_view(policy, other) is None


def parting_view(policy, other):
    """The first view that is seen by the first policy and not by the other one, None if there is none."""
    need_policy(policy)
    need_policy(other)
    # One label is always enough: who may not see several may not see one of them.
    askers = sorted(all_askers(), key=lambda asker: (len(asker), asker))
    for label, _ in policy.rights:
        for asker in askers:
            if policy.sees((label,), asker) and not other.sees((label,), asker):
                return ((label,), asker)
    return None

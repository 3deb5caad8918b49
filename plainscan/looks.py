"""Looks: the best keys of lists of points, and what is settled once the lists have been read to some depths."""

from plainscan.documents import LARGEST_KEY, is_key, need_key
from plainscan.errors import InvalidDepths, InvalidLists, TooLarge
from plainscan.rights import is_ascending
from plainscan.values import is_number, is_tuple_of, need_many

MOST_LISTS = 4
MOST_PAIRS = 40
LARGEST_POINTS = 999
LONGEST_TRIED = 8
# It stands in front of all keys, so each key is above it.
NO_KEY = 0
# It stands behind all places that keys can have.
NO_RIVAL = (1, 0)


def is_pair(value):
    """Whether a value is a pair (POINTS, KEY)."""
    return is_tuple_of(value, 2, 2) and is_number(value[0], 1, LARGEST_POINTS) and is_key(value[1])


def is_list(value):
    """Whether a value is a list of such pairs."""
    if not is_tuple_of(value, 0, MOST_PAIRS) or not all([is_pair(pair) for pair in value]):
        return False
    unlike_keys = len(set([key for _, key in value])) == len(value)
    return unlike_keys and is_ascending([(-points, key) for points, key in value])


def need_lists(lists):
    """An error with the first of the lists that is none."""
    if not is_tuple_of(lists, 1, MOST_LISTS):
        raise InvalidLists(None)
    for at, pairs in enumerate(lists):
        if not is_list(pairs):
            raise InvalidLists(at)


def need_depths(depths, lists):
    """An error with the first of the depths that is none of its list."""
    if not is_tuple_of(depths, len(lists), len(lists)):
        raise InvalidDepths(None)
    for at, depth in enumerate(depths):
        if not is_number(depth, 0, len(lists[at])):
            raise InvalidDepths(at)


def need_short(lists):
    """An error with the length of the longest list if it is too long for trying all depths."""
    longest = max([len(pairs) for pairs in lists])
    if longest > LONGEST_TRIED:
        raise TooLarge(longest)


def best_keys(lists, many):
    """The first many keys by the sums of their points."""
    need_lists(lists)
    need_many(many)
    sums = {}
    for pairs in lists:
        for points, key in pairs:
            sums[key] = sums.get(key, 0) + points
    places = sorted([(-total, key) for key, total in sums.items()])
    return tuple([key for _, key in places[:many]])


def sums_of(lists, depths, key):
    """The pair of the least and the greatest sum of a key, as far as the lists have been read."""
    need_lists(lists)
    need_depths(depths, lists)
    need_key(key)
    return sums_from(reads_of(lists, depths), key)


def reads_of(lists, depths):
    """For each list the triple of the points that have been read, by their keys, and of POINTS and KEY.

    The bound of another key is POINTS if it is above KEY, and one less if it is not.
    """
    reads = []
    for pairs, depth in zip(lists, depths):
        read = {key: points for points, key in pairs[:depth]}
        if depth == len(pairs):
            reads.append((read, 0, NO_KEY))
        elif depth == 0:
            reads.append((read, LARGEST_POINTS, NO_KEY))
        else:
            reads.append((read, *pairs[depth - 1]))
    return reads


def sums_from(reads, key):
    """The pair of the least and the greatest sum of a key, told what has been read."""
    least, most = 0, 0
    for read, points, last in reads:
        if key in read:
            least += read[key]
            most += read[key]
        elif key > last:
            most += points
        else:
            most += points - 1
    return (least, most)


def settled(lists, depths, many):
    """The tuple of keys that depths settle, None if there is none."""
    need_lists(lists)
    need_depths(depths, lists)
    need_many(many)
    return keys_settled(lists, depths, many)


def keys_settled(lists, depths, many):
    """The same, of what surely is all this.

    A key beats another one if its place by its least sum is ahead of the other one's place by its greatest sum.
    """
    reads = reads_of(lists, depths)
    sums = {key: sums_from(reads, key) for key in keys_enough(reads)}
    first = sorted([(-least, key) for key, (least, _) in sums.items() if least > 0])[:many]
    told = {key: True for _, key in first}
    others = [(-most, key) for key, (_, most) in sums.items() if key not in told]
    rival = min([NO_RIVAL, *others])
    if len(first) < many and rival < (0, NO_KEY):
        return None
    for place in first[::-1]:
        if rival < place:
            return None
        key = place[1]
        rival = min(rival, (-sums[key][1], key))
    return tuple([key for _, key in first])


def keys_enough(reads):
    """The keys that have been read, and of each kind of others the least one."""
    keys = {}
    for read, _, _ in reads:
        keys.update(read)
    others = [least_unread(keys, above) for above in [NO_KEY] + [last for _, _, last in reads]]
    return sorted(set([*keys, *others]))


def least_unread(keys, above):
    """The least key above a number that is none of some keys; the last of all keys if there is none."""
    key = above + 1
    while key in keys:
        key += 1
    return min(key, LARGEST_KEY)


def fewest_looks(lists, many):
    """The least sum of depths that settle something."""
    return sum(any_fewest(lists, many))


def any_fewest(lists, many):
    """Such depths."""
    need_lists(lists)
    need_many(many)
    need_short(lists)
    depths = [()]
    for pairs in lists:
        depths = [(*ahead, depth) for ahead in depths for depth in range(len(pairs) + 1)]
    # When everything has been read, everything is settled: the loop always finds some.
    for tried in sorted(depths, key=sum):
        if keys_settled(lists, tried, many) is not None:
            return tried
    return None

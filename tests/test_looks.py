"""Looks: points 32 and 33 and the section of the looks."""

import random
import unittest
from itertools import product

from plainscan import errors
from plainscan.looks import any_fewest, best_keys, fewest_looks, settled, sums_of
from tests.calls import NO_NUMBERS, NO_OBJECTS, NO_TUPLES, check_calls, given, indexed, raised
from tests.test_documents import NO_KEYS
from tests.test_hints import MANY

LISTS = (((9, 5), (4, 2), (1, 7)), ((6, 5), (6, 8), (2, 2)))
FULL = tuple((999, key) for key in range(1, 41))
NO_PAIRS = (*NO_OBJECTS, (), (9,), (9, 5, 1), [9, 5], *((points, 5) for points in (*NO_NUMBERS, 0, 1000)), *((9, key) for key in NO_KEYS))
NO_LISTS = (
    *NO_TUPLES, [(9, 5)], (9, 5), FULL + ((1, 50),), FULL + ((999, 41),),
    ((4, 5), (9, 6)), ((9, 6), (9, 5)), ((9, 5), (9, 5)), ((9, 5), (8, 5)), ((9, 5), (8, 6), (7, 5)),
    *((pair,) for pair in NO_PAIRS), *(((9, 5), pair) for pair in NO_PAIRS),
)


def drawn_list(draw, most, keys, points):
    """A drawn list of pairs, of keys and points out of told ones."""
    taken = draw.sample(keys, draw.randint(0, min(most, len(keys))))
    return tuple(sorted(((draw.choice(points), key) for key in taken), key=lambda pair: (-pair[0], pair[1])))


def drawn_lists(draw, most=40):
    keys = draw.choice((range(1, 5), range(1, 12), (1, 2, 3, 500, 997, 998, 999), range(1, 1000)))
    points = draw.choice(((1,), (1, 2), (1, 2, 3, 4), (1, 998, 999), range(1, 1000)))
    return tuple(drawn_list(draw, most, keys, points) for _ in range(draw.randint(1, 4)))


def drawn_depths(draw, lists):
    kind = draw.choice(("none", "all", "between", "between", "most"))
    least = {"none": lambda pairs: 0, "all": len, "between": lambda pairs: draw.randint(0, len(pairs)),
             "most": lambda pairs: max(0, len(pairs) - draw.randint(0, 2))}[kind]
    return tuple(least(pairs) for pairs in lists)


def plain_sums(lists, depths, key):
    """The least and the greatest sum of a key, list by list."""
    least = most = 0
    for pairs, depth in zip(lists, depths):
        read = pairs[:depth]
        points = [worth for worth, other in read if other == key]
        if points:
            least, most = least + points[0], most + points[0]
        elif depth == len(pairs):
            most += 0
        elif not read:
            most += 999
        else:
            worth, last = read[-1]
            most += worth if key > last else worth - 1
    return least, most


def is_settled(told, sums, many):
    """Whether a tuple of keys is settled, by the words of the document, told the sums of all keys from 1 to 999."""
    def beats(one, other):
        return sums[one][0] > sums[other][1] or (sums[one][0] == sums[other][1] and one < other)
    for at, key in enumerate(told):
        if sums[key][0] == 0 or not all(beats(key, other) for other in told[at + 1:]):
            return False
    others = [key for key in sums if key not in told]
    if len(told) == many:
        return all(beats(told[-1], other) for other in others)
    return len(told) < many and all(sums[key][1] == 0 for key in others)


def plain_settled(lists, depths, many):
    """The one tuple that is settled, out of all that may be, None if none is: each goes on with lesser least sums."""
    sums = {key: plain_sums(lists, depths, key) for key in range(1, 1000)}
    order = sorted((key for key in sums if sums[key][0] > 0), key=lambda key: (-sums[key][0], key))
    found = [tuple(order[:length]) for length in range(min(many, len(order)) + 1)
             if is_settled(tuple(order[:length]), sums, many)]
    assert len(found) <= 1
    return found[0] if found else None


def plain_best(lists, many):
    totals = {key: sum(dict((other, worth) for worth, other in pairs).get(key, 0) for pairs in lists) for key in range(1, 1000)}
    return tuple(sorted((key for key in totals if totals[key] > 0), key=lambda key: (-totals[key], key))[:many])


def all_depths(lists):
    return product(*(range(len(pairs) + 1) for pairs in lists))


def ending(draw, read, left):
    """So many pairs that may stand behind what has been read of a list, None if the draw was a bad one."""
    worth, last = read[-1] if read else (999, 0)
    free = [key for key in range(1, 1000) if key not in [other for _, other in read]]
    points = range(max(1, worth - draw.choice((0, 1, 5, 999))), worth + 1)
    pairs = sorted(((draw.choice(points), key) for key in draw.sample(free, left)), key=lambda pair: (-pair[0], pair[1]))
    return tuple(pairs) if not pairs or (-pairs[0][0], pairs[0][1]) > (-worth, last) else None


def lists_beginning(draw, lists, depths):
    """Lists of the same lengths, of which just the same has been read."""
    others = []
    for pairs, depth in zip(lists, depths):
        tried = [ending(draw, pairs[:depth], len(pairs) - depth) for _ in range(20)]
        others.append(pairs[:depth] + next((one for one in tried if one is not None), pairs[depth:]))
    return tuple(others)


class BestTest(unittest.TestCase):
    def test_small_lists(self):
        self.assertEqual(best_keys(LISTS, 40), (5, 2, 8, 7))
        self.assertEqual(best_keys(many=1, lists=LISTS), (5,))
        self.assertEqual(best_keys(((), ()), 1), ())
        self.assertEqual(best_keys((FULL,), 40), tuple(range(1, 41)))
        self.assertEqual(best_keys((FULL, ((1, 40),)), 2), (40, 1))

    def test_drawn_lists(self):
        draw = random.Random(32)
        for _ in range(150):
            lists, many = drawn_lists(draw), draw.choice((1, 2, 3, 39, 40))
            self.assertEqual(best_keys(lists, many), plain_best(lists, many))

    def test_wrong(self):
        check_calls(self, best_keys, ("lists", (FULL,) * 4, wrong_lists()), MANY)


def wrong_lists():
    kind = errors.InvalidLists
    one = LISTS[0]
    return [*indexed(kind, None, *NO_TUPLES, (), (one,) * 5, [one], (None,) * 5),
            *indexed(kind, 0, *((value,) for value in NO_LISTS), (None, 5)),
            *indexed(kind, 1, *((one, value, one) for value in NO_LISTS)),
            *indexed(kind, 3, (one, one, (), FULL + ((1, 50),)))]


def wrong_depths():
    kind = errors.InvalidDepths
    return [*indexed(kind, None, *NO_TUPLES, (), (1,), (1, 1, 1), [1, 1], (None,) * 3),
            *indexed(kind, 0, *((value, 1) for value in (*NO_NUMBERS, 4, 40)), (None, 9)),
            *indexed(kind, 1, *((3, value) for value in (*NO_NUMBERS, 4)))]


class SumsTest(unittest.TestCase):
    def test_bounds(self):
        lists = (((5, 10), (5, 20), (1, 30), (1, 40)),)
        told = {(0, 1): (0, 999), (0, 999): (0, 999), (1, 10): (5, 5), (1, 9): (0, 4), (1, 11): (0, 5), (2, 19): (0, 4), (2, 21): (0, 5),
                (3, 29): (0, 0), (3, 31): (0, 1), (3, 20): (5, 5), (4, 999): (0, 0), (4, 40): (1, 1)}
        for (depth, key), sums in told.items():
            self.assertEqual(sums_of(lists, (depth,), key), sums)
            self.assertEqual(sums_of(key=key, depths=(depth,), lists=lists), sums)
        self.assertEqual(sums_of(((), lists[0]), (0, 0), 7), (0, 999))
        self.assertEqual(sums_of(((),) * 4, (0,) * 4, 7), (0, 0))

    def test_drawn_lists(self):
        draw = random.Random(33)
        for _ in range(60):
            lists = drawn_lists(draw)
            depths = drawn_depths(draw, lists)
            for key in (*range(1, 14), *draw.sample(range(1, 1000), 12), 498, 500, 501, 996, 997, 998, 999):
                self.assertEqual(sums_of(lists, depths, key), plain_sums(lists, depths, key))

    def test_wrong(self):
        lists, depths = ("lists", LISTS, wrong_lists()), ("depths", (3, 3), wrong_depths())
        check_calls(self, sums_of, lists, depths, ("key", 999, given(errors.InvalidNumber, *NO_KEYS)))
        check_calls(self, settled, lists, depths, MANY)


class SettledTest(unittest.TestCase):
    def test_no_pairs_at_all(self):
        for many in (1, 40):
            self.assertEqual(settled(((),), (0,), many), ())
            self.assertEqual(settled(((), (), ()), (0, 0, 0), many), ())
        self.assertIsNone(settled((LISTS[0], ()), (0, 0), 1))

    def test_equal_sums_are_settled_by_keys(self):
        lists = (((9, 5), (9, 6)), ((9, 5), (9, 6)))
        self.assertEqual(settled(lists, (1, 1), 1), (5,))
        self.assertIsNone(settled(lists, (1, 1), 2))
        self.assertEqual(settled(lists, (2, 2), 2), (5, 6))
        self.assertEqual(settled(lists, (2, 2), 3), (5, 6))
        # A lesser key with the same points might have been read before it.
        self.assertIsNone(settled((((9, 5), (9, 6)), ((9, 4), (9, 6))), (1, 1), 1))

    def test_the_last_key(self):
        # The keys above the last one read are worth as much, if there are any.
        self.assertEqual(settled((((9, 998), (1, 999)),), (1,), 1), (998,))
        self.assertEqual(settled((((1, 998), (1, 999)),), (1,), 1), (998,))
        self.assertIsNone(settled((((1, 998), (1, 999)),), (1,), 2))
        self.assertEqual(settled((((1, 998), (1, 999)),), (2,), 2), (998, 999))
        # Whatever is behind it cannot be there: no key is greater, and no points are less than 1.
        self.assertEqual(settled((((1, 999),), ((1, 999),)), (1, 1), 1), (999,))

    def test_a_lesser_key_that_has_not_been_read_anywhere(self):
        # The key 6, with 9 points next in the first list, would be as good as the key 7, and is less.
        lists = (((9, 5), (1, 1)), ((20, 5), (9, 7)))
        self.assertEqual(sums_of(lists, (1, 2), 6), (0, 9))
        self.assertIsNone(settled(lists, (1, 2), 2))
        self.assertEqual(settled(lists, (1, 2), 1), (5,))
        self.assertEqual(settled((((9, 6), (1, 1)), ((20, 6), (9, 7))), (1, 2), 2), (6, 7))
        # The same with the key 7, behind 5 and 6, which have been read.
        lists = (((9, 5), (1, 1)), ((30, 5), (20, 6), (9, 8)))
        self.assertIsNone(settled(lists, (1, 3), 3))
        self.assertEqual(settled(lists, (1, 3), 2), (5, 6))
        self.assertEqual(settled((((9, 5), (1, 1)), ((30, 5), (20, 6), (9, 7))), (1, 3), 3), (5, 6, 7))

    def test_drawn_lists(self):
        draw = random.Random(34)
        found = []
        for _ in range(500):
            lists, many = drawn_lists(draw, draw.choice((3, 8, 40))), draw.choice((1, 1, 2, 3, 10, 40))
            depths = drawn_depths(draw, lists)
            told = plain_settled(lists, depths, many)
            found.append(told)
            self.assertEqual(settled(lists, depths, many), told, (lists, depths, many))
            self.assertEqual(settled(many=many, depths=depths, lists=lists), told)
        self.assertGreater(found.count(None), 100)
        self.assertGreater(len([one for one in found if one]), 100)

    def test_all_depths_of_small_lists(self):
        draw = random.Random(35)
        for _ in range(12):
            lists, many = drawn_lists(draw, 3)[:2], draw.choice((1, 2, 3))
            for depths in all_depths(lists):
                self.assertEqual(settled(lists, depths, many), plain_settled(lists, depths, many))

    def test_what_is_settled_stays_so(self):
        draw = random.Random(36)
        many_found = 0
        for _ in range(400):
            lists, many = drawn_lists(draw, draw.choice((3, 8, 40))), draw.choice((1, 2, 3))
            depths = drawn_depths(draw, lists)
            told = settled(lists, depths, many)
            self.assertEqual(settled(lists, tuple(map(len, lists)), many), best_keys(lists, many))
            if told is None:
                continue
            many_found += 1
            self.assertEqual(told, best_keys(lists, many))
            greater = tuple(draw.randint(depth, len(pairs)) for pairs, depth in zip(lists, depths))
            self.assertEqual(settled(lists, greater, many), told)
            other = lists_beginning(draw, lists, depths)
            self.assertEqual(settled(other, depths, many), told)
            self.assertEqual(best_keys(other, many), told)
        self.assertGreater(many_found, 100)


class FewestTest(unittest.TestCase):
    def compare(self, lists, many, plain):
        number, depths = fewest_looks(lists, many), any_fewest(lists, many)
        self.assertEqual(sum(depths), number)
        self.assertEqual(settled(lists, depths, many), best_keys(lists, many))
        tried = [depths for depths in all_depths(lists) if sum(depths) <= number]
        self.assertEqual({sum(one) for one in tried if plain(lists, one, many) is not None}, {number})
        self.assertEqual(fewest_looks(many=many, lists=lists), number)
        self.assertEqual(any_fewest(many=many, lists=lists), depths)

    def test_small_lists(self):
        draw = random.Random(37)
        for _ in range(20):
            self.compare(drawn_lists(draw, 3)[:3], draw.choice((1, 2, 40)), plain_settled)

    def test_lists_of_eight(self):
        draw = random.Random(38)
        for _ in range(25):
            self.compare(drawn_lists(draw, 8), draw.choice((1, 2, 3)), settled)
        full = tuple(tuple((points, points) for points in range(8 + at, at, -1)) for at in range(4))
        self.compare(full, 2, settled)
        self.assertEqual((fewest_looks(((),) * 4, 1), any_fewest(((),) * 4, 1)), (0, (0,) * 4))

    def test_all_must_be_read(self):
        eight = tuple((1, key) for key in range(1, 9))
        self.assertEqual((fewest_looks((eight,), 40), any_fewest((eight,), 40)), (8, (8,)))
        self.assertEqual(fewest_looks((eight,), 3), 3)

    def test_wrong(self):
        eight = tuple((1, key) for key in range(1, 9))
        wrongs = wrong_lists()
        for call in (fewest_looks, any_fewest):
            check_calls(self, call, ("lists", (eight, ()), wrongs), MANY)
            for lists, longest in (((eight + ((1, 9),),), 9), ((eight, FULL, eight + ((1, 9),)), 40), (((), FULL[:10]), 10)):
                error = raised(call, lists, 1)
                self.assertEqual((type(error), vars(error)), (errors.TooLarge, {"given": longest}))
                self.assertIs(type(raised(call, lists, 0)), errors.InvalidNumber)
                self.assertIs(type(raised(call, (*lists, None), 1)), errors.InvalidLists)


if __name__ == "__main__":
    unittest.main()

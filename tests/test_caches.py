"""Caches: point 38 and the section of the caches."""

import random
import unittest

from plainscan import errors
from plainscan.caches import Cache
from tests.calls import NO_NUMBERS, NO_OBJECTS, NO_TUPLES, check_calls, fresh, given, told_by


def nested(value, many):
    """A value inside so many tuples."""
    for _ in range(many):
        value = (value,)
    return value


NO_PLAIN = (True, False, b"a", [], [1], {}, {"a": 1}, set(), {1}, object(), len, int, Cache(1))
NO_MARKS = (*NO_TUPLES, *(nested(value, many) for value in NO_PLAIN for many in (1, 2, 5, 13)), (1, (2, (3, [4]))), (None, "a", 1, True),
            ((1, 2), (3, (False,))), ("a", ("b", {})), ((), [()]))
MARKS = ((), (1,), (0,), ("1",), (None,), ((),), ((1,),), (1, 1), ("", None), (-5, 10 ** 59), nested(1, 14), nested("a", 13), nested((), 13),
         ("all", (("word", "any", "cat"),)), (((4, 20, "", "cat"),), ("not", ("word", "any", "cat")), ((0,), (0,), (0,), 1, "key", "seen"), 5))
NO_MARK = ("mark", nested(1, 14), given(errors.InvalidMark, *NO_MARKS))


def all_of(cache):
    return cache.marks, len(cache)


def made():
    cache = Cache(3)
    for mark in MARKS[:3]:
        cache.keep(mark, mark)
    return cache


class Plain:
    """A row of pairs of marks and rows, the one used longest ago first."""
    def __init__(self, size):
        self.size, self.kept = size, []

    def use(self, mark, rows):
        self.kept = [pair for pair in self.kept if pair[0] != mark] + [(mark, rows)]
        while len(self.kept) > self.size:
            del self.kept[0]

    def find(self, mark):
        for other, rows in self.kept:
            if other == mark:
                self.use(mark, rows)
                return rows
        return None


class CacheTest(unittest.TestCase):
    def test_a_new_cache(self):
        for size in (0, 1, 20):
            cache = Cache(size)
            self.assertEqual(all_of(cache), ((), 0))
            self.assertEqual(all_of(Cache(size=size)), ((), 0))
            self.assertTrue(cache and cache == cache and cache != Cache(size) and not cache == Cache(size))
            for value in NO_OBJECTS:
                self.assertTrue(cache != value and not cache == value)
        check_calls(self, Cache, ("size", 20, given(errors.InvalidNumber, *NO_NUMBERS, 21)))
        check_calls(self, Cache, ("size", 0, []))

    def test_all_kinds_of_marks(self):
        cache = Cache(20)
        for at, mark in enumerate(MARKS):
            self.assertIsNone(cache.keep(mark, at))
        self.assertEqual(cache.marks, MARKS)
        for at, mark in enumerate(MARKS):
            self.assertEqual(cache.find(mark), at)
        self.assertIsNone(cache.find((2,)))

    def test_a_cache_of_size_0_keeps_nothing(self):
        cache = Cache(0)
        self.assertIsNone(cache.keep((1,), ()))
        self.assertIsNone(cache.find((1,)))
        self.assertEqual(all_of(cache), ((), 0))

    def test_the_one_used_longest_ago_is_thrown_out(self):
        for size in (1, 2, 19, 20):
            cache = Cache(size)
            marks = tuple((number,) for number in range(size))
            for mark in marks:
                cache.keep(mark, mark)
            self.assertEqual(all_of(cache), (marks, size))
            self.assertEqual(cache.find(marks[0]), marks[0])
            self.assertEqual(cache.marks, marks[1:] + marks[:1])
            cache.keep(("one more",), ())
            self.assertEqual(cache.marks, (marks[1:] + marks[:1])[1:] + (("one more",),))
            self.assertEqual(cache.find(marks[0]), None if size == 1 else marks[0])

    def test_keeping_uses_and_replaces(self):
        cache = made()
        self.assertIsNone(cache.keep(MARKS[0], "other"))
        self.assertEqual(all_of(cache), ((MARKS[1], MARKS[2], MARKS[0]), 3))
        self.assertEqual(cache.find(MARKS[0]), "other")
        self.assertIsNone(cache.find(("strange",)))
        self.assertEqual(cache.marks, (MARKS[1], MARKS[2], MARKS[0]))

    def test_rows_are_any_value(self):
        for rows in (*NO_OBJECTS, [], {}, object()):
            cache = made()
            cache.keep(("rows",), rows)
            self.assertIs(cache.find(("rows",)), rows)
            self.assertEqual(cache.marks[-1], ("rows",))

    def test_rows_of_none_are_used_when_found(self):
        cache = Cache(2)
        cache.keep((1,), None)
        cache.keep((2,), 2)
        self.assertIsNone(cache.find((1,)))
        self.assertEqual(cache.marks, ((2,), (1,)))

    def test_wrong(self):
        check_calls(self, fresh(made, "find", all_of), NO_MARK)
        check_calls(self, fresh(made, "keep", all_of), NO_MARK, ("rows", 1, []))
        # True is never taken for 1.
        cache = Cache(2)
        cache.keep((1, 0), "rows")
        for mark in ((True, 0), (1, False), (True, False)):
            self.assertEqual(told_by(cache.find, mark), (errors.InvalidMark, {"given": mark}))
            self.assertEqual(told_by(cache.keep, mark, 5), (errors.InvalidMark, {"given": mark}))
        self.assertEqual(cache.find((1, 0)), "rows")

    def test_two_caches_by_turns(self):
        draw = random.Random(38)
        for _ in range(60):
            pairs = []
            for _ in range(2):
                size = draw.choice((0, 1, 2, 3, 7, 20))
                pairs.append((Cache(size), Plain(size)))
            marks = draw.sample([*MARKS, *((number, "more") for number in range(20))], draw.randint(1, 30))
            for step in range(100):
                cache, plain = draw.choice(pairs)
                mark = draw.choice(marks)
                if draw.random() < 0.5:
                    self.assertIsNone(cache.keep(mark, step))
                    plain.use(mark, step)
                elif draw.random() < 0.9:
                    self.assertEqual(cache.find(mark), plain.find(mark))
                else:
                    self.assertIs(told_by(cache.find, draw.choice(NO_MARKS))[0], errors.InvalidMark)
                for one, other in pairs:
                    self.assertEqual(one.marks, tuple(mark for mark, _ in other.kept))
                    self.assertEqual(len(one), len(other.kept))


if __name__ == "__main__":
    unittest.main()

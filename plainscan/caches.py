"""Caches: rows that are kept under marks, until others have been used later."""

from plainscan.errors import InvalidMark
from plainscan.values import need_number

LARGEST_SIZE = 20


def is_mark(value):
    """Whether a value is a tuple of strings, numbers, None and such tuples."""
    return type(value) is tuple and all([is_plain(one) or is_mark(one) for one in value])


def is_plain(value):
    """Whether a value is a string, a number or None; True and False are none of these."""
    return value is None or type(value) in (str, int)


def need_mark(mark):
    """An error for what is no mark."""
    if not is_mark(mark):
        raise InvalidMark(mark)


class Cache:
    """Rows under the marks that were used last."""
    def __init__(self, size):
        need_number(size, 0, LARGEST_SIZE)
        self.marks = ()
        self._size = size
        # The rows of each of the marks, in the order of the marks. Marks are no keys, since they may be nested deeply.
        self._rows = ()

    def __len__(self):
        return len(self.marks)

    def __bool__(self):
        return True

    def find(self, mark):
        """The rows that are kept under a mark, None if there are none."""
        need_mark(mark)
        if mark not in self.marks:
            return None
        rows = self._rows[self.marks.index(mark)]
        self._use(mark, rows)
        return rows

    def keep(self, mark, rows):
        """Keeps rows under a mark."""
        need_mark(mark)
        self._use(mark, rows)

    def copied(self):
        """Another cache that keeps the same rows."""
        cache = Cache(self._size)
        cache.marks = self.marks
        cache._rows = self._rows
        return cache

    def _use(self, mark, rows):
        others = [(other, told) for other, told in zip(self.marks, self._rows) if other != mark]
        kept = [*others, (mark, rows)]
        latest = kept[max(0, len(kept) - self._size):]
        self.marks = tuple([other for other, _ in latest])
        self._rows = tuple([told for _, told in latest])

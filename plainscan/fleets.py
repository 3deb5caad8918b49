"""Fleets: houses with copies of lots, which lag, are cleaned and get lost; and which counts they hold and serve."""

from itertools import combinations

from plainscan.documents import MOST_CHANGES, need_log
from plainscan.errors import Absent, InvalidHouse, InvalidLot, InvalidNumber, Live, Lost, NotAFleet, Present
from plainscan.rights import need_asker
from plainscan.values import is_number, need_count, need_number

MOST_LOTS = 4
MOST_HOUSES = 6


def need_fleet(fleet):
    """An error for what is no fleet."""
    if not isinstance(fleet, Fleet):
        raise NotAFleet(fleet)


def need_lots(lots):
    """An error for no number of lots."""
    need_number(lots, 1, MOST_LOTS)


def need_house(house, houses):
    """An error for what is no number of one of so many houses."""
    if not is_number(house, 0, houses - 1):
        raise InvalidHouse(house)


def need_lot(lot, lots):
    """An error for what is no number of one of so many lots."""
    if not is_number(lot, 0, lots - 1):
        raise InvalidLot(lot)


class Fleet:
    """Houses that are live or lost, with copies of lots."""
    def __init__(self, lots, houses):
        need_lots(lots)
        need_number(houses, 1, MOST_HOUSES)
        self.lots = lots
        self.houses = houses
        self.lost = ()
        self.copies = ()

    def place(self, house, lot):
        """Places an empty copy of a lot in a house."""
        need_house(house, self.houses)
        need_lot(lot, self.lots)
        need_room(self, house, lot)
        self.copies = with_copy(self.copies, (house, lot, 0, 0))

    def ship(self, house, lot, number):
        """Ships entries to a copy, up to a number."""
        need_house(house, self.houses)
        need_lot(lot, self.lots)
        need_number(number, 0, MOST_CHANGES)
        floor, applied = numbers_at(self, house, lot)
        if number < applied:
            raise InvalidNumber(number)
        self.copies = with_copy(self.copies, (house, lot, floor, number))

    def clean(self, house, lot, number):
        """Makes a number the floor of a copy."""
        need_house(house, self.houses)
        need_lot(lot, self.lots)
        need_number(number, 0, MOST_CHANGES)
        floor, applied = numbers_at(self, house, lot)
        if not floor <= number <= applied:
            raise InvalidNumber(number)
        self.copies = with_copy(self.copies, (house, lot, number, applied))

    def lose(self, house):
        """Loses a house with all its copies."""
        need_house(house, self.houses)
        need_live(self, house)
        self.lost = tuple(sorted([*self.lost, house]))
        self.copies = tuple([copy for copy in self.copies if copy[0] != house])

    def back(self, house):
        """Takes a lost house back, without copies."""
        need_house(house, self.houses)
        if house not in self.lost:
            raise Live(house)
        self.lost = tuple([other for other in self.lost if other != house])

    def move(self, house, lot, target):
        """Moves a copy to another house."""
        need_house(house, self.houses)
        need_lot(lot, self.lots)
        need_house(target, self.houses)
        floor, applied = numbers_at(self, house, lot)
        need_room(self, target, lot)
        self.copies = with_copy(without_copy(self.copies, house, lot), (target, lot, floor, applied))

    def copied(self):
        """Another fleet with the same copies and lost houses."""
        return fleet_with(self.lots, self.houses, self.lost, self.copies)


def need_live(fleet, house):
    """An error for a house that is lost."""
    if house in fleet.lost:
        raise Lost(house)


def need_room(fleet, house, lot):
    """An error for a house that is lost, or has a copy of a lot."""
    need_live(fleet, house)
    if (house, lot) in [copy[:2] for copy in fleet.copies]:
        raise Present(house)


def numbers_at(fleet, house, lot):
    """The pair (FLOOR, APPLIED) of the copy of a lot in a house; an error for a house that is lost, or has none."""
    need_live(fleet, house)
    for copy in fleet.copies:
        if copy[:2] == (house, lot):
            return copy[2:]
    raise Absent(house)


def without_copy(copies, house, lot):
    """The copies without that of a lot in a house."""
    return tuple([copy for copy in copies if copy[:2] != (house, lot)])


def with_copy(copies, copy):
    """The copies with one more, or with other numbers of one."""
    return tuple(sorted([*without_copy(copies, copy[0], copy[1]), copy]))


def fleet_with(lots, houses, lost, copies):
    """The fleet with what surely are lost houses and copies."""
    fleet = Fleet(lots, houses)
    fleet.lost = lost
    fleet.copies = copies
    return fleet


def spans_of(log, asker):
    """For each own count of an asker the pair of the first and the last version with it."""
    return [log.versions(count, asker) for count in range(log.count(len(log), asker) + 1)]


def holders(fleet, span):
    """For each lot the pairs (HOUSE, VERSION) of the copies that hold a version from one to another one."""
    first, last = span
    found = [[] for _ in range(fleet.lots)]
    for house, lot, floor, applied in fleet.copies:
        if floor <= last and first <= applied:
            found[lot].append((house, min(applied, last)))
    return found


def readings_in(fleet, span):
    """For each lot such a pair, None if a lot has none."""
    found = holders(fleet, span)
    if not all([len(pairs) > 0 for pairs in found]):
        return None
    return tuple([pairs[0] for pairs in found])


def held_counts(fleet, log, asker):
    """The ascending tuple of the counts of an asker for which each lot has a copy that holds a version."""
    need_fleet(fleet)
    need_log(log)
    need_asker(asker)
    spans = spans_of(log, asker)
    return tuple([count for count, span in enumerate(spans) if readings_in(fleet, span) is not None])


def served_count(fleet, log, asker, least):
    """The greatest held count that is neither below a least one nor below the asker's fence, None if there is none."""
    need_fleet(fleet)
    need_log(log)
    need_asker(asker)
    need_count(least)
    lowest = max(least, log.fence(asker))
    return max([count for count in held_counts(fleet, log, asker) if count >= lowest], default=None)


def weak_sets(fleet, log, asker, least):
    """All sets of live houses without which no count is served, but one is with any one of them."""
    need_fleet(fleet)
    need_log(log)
    need_asker(asker)
    need_count(least)
    lowest = max(least, log.fence(asker))
    found = [holders(fleet, span) for count, span in enumerate(spans_of(log, asker)) if count >= lowest]
    live = [house for house in range(fleet.houses) if house not in fleet.lost]
    weak = []
    for many in range(len(live) + 1):
        for houses in combinations(live, many):
            if is_weak(found, houses):
                weak.append(houses)
    return tuple(weak)


def is_weak(found, houses):
    """Whether some houses are a weak set, told who holds each count that may be served, by lots."""
    if is_served_without(found, houses):
        return False
    return all([is_served_without(found, [other for other in houses if other != house]) for house in houses])


def is_served_without(found, houses):
    """Whether for some count each lot has a copy in none of some houses."""
    for lots in found:
        if all([any([house not in houses for house, _ in pairs]) for pairs in lots]):
            return True
    return False

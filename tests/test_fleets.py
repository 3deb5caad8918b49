"""Fleets: points 14 to 19 and 34 to 37 and the section of the fleets."""

import random
import unittest
from itertools import combinations

from plainscan import errors
from plainscan.documents import Log
from plainscan.fleets import Fleet, held_counts, served_count, weak_sets
from tests.calls import NO_NUMBERS, NO_OBJECTS, check_calls, fresh, given, told_by
from tests.test_documents import drawn_changes, plain_counts, replayed
from tests.test_rights import NO_ASKERS
from tests.test_scans import ASKERS, LOG, NO_COUNTS, with_unseen

WEIRD = (None, True, False, "0", (0,), [0], -1, 7, 10 ** 59)
DEEDS = {"place": "hl", "ship": "hln", "clean": "hln", "lose": "h", "back": "h", "move": "hlt"}


class Books:
    """A fleet, kept plainly: for each house that is live its copies, for each lot the floor and the applied number."""
    def __init__(self, lots, houses):
        self.lots, self.there = lots, {house: {} for house in range(houses)}
        self.houses = houses

    def copies(self):
        return tuple((house, lot, *self.there[house][lot]) for house in range(self.houses) if house in self.there
                     for lot in range(self.lots) if lot in self.there[house])

    def lost(self):
        return tuple(house for house in range(self.houses) if house not in self.there)

    def wrong(self, kinds, args, most):
        """The error for the first argument that is wrong by itself, None if none is."""
        for kind, value in zip(kinds, args):
            top = {"h": self.houses - 1, "t": self.houses - 1, "l": self.lots - 1, "n": most}[kind]
            if type(value) is not int or not 0 <= value <= top:
                return {"h": errors.InvalidHouse, "t": errors.InvalidHouse, "l": errors.InvalidLot, "n": errors.InvalidNumber}[kind], value
        return None

    def due(self, deed, args):
        """The error that the houses make due, None if none is."""
        house, lot = (*args, None)[:2]
        if deed == "back":
            return (errors.Live, house) if house in self.there else None
        if house not in self.there:
            return errors.Lost, house
        if deed == "place" and lot in self.there[house]:
            return errors.Present, house
        if deed in ("ship", "clean", "move") and lot not in self.there[house]:
            return errors.Absent, house
        if deed == "move" and args[2] not in self.there:
            return errors.Lost, args[2]
        if deed == "move" and lot in self.there[args[2]]:
            return errors.Present, args[2]
        if deed in ("ship", "clean"):
            floor, applied = self.there[house][lot]
            if deed == "ship" and args[2] < applied or deed == "clean" and not floor <= args[2] <= applied:
                return errors.InvalidNumber, args[2]
        return None

    def do(self, deed, args, most=200):
        """Does a deed, or returns the pair of the error's class and of what it tells."""
        error = self.wrong(DEEDS[deed], args, most) or self.due(deed, args)
        if error is not None:
            return error[0], {"given": error[1]}
        house, lot, number = (*args, None, None)[:3]
        if deed == "place":
            self.there[house][lot] = [0, 0]
        elif deed in ("ship", "clean"):
            self.there[house][lot][int(deed == "ship")] = number
        elif deed == "lose":
            del self.there[house]
        elif deed == "back":
            self.there[house] = {}
        else:
            self.there[number][lot] = self.there[house].pop(lot)
        return None


def drawn_deed(draw, lots, houses, numbers, weird=0.05):
    """A drawn deed of a fleet with its arguments, some of which are wrong by themselves."""
    deed = draw.choice(("place", "place", "place", "ship", "ship", "ship", "clean", "lose", "back", "back", "move"))
    args = []
    for kind in DEEDS[deed]:
        good = {"h": range(houses), "t": range(houses), "l": range(lots), "n": numbers}[kind]
        args.append(draw.choice(WEIRD) if draw.random() < weird else draw.choice(good))
    return deed, args


def plain_fence(seen, counts):
    fence = 0
    for version in range(1, len(seen)):
        if {one[0] for one in seen[version - 1]} - {one[0] for one in seen[version]}:
            fence = counts[version]
    return fence


def plain_held(copies, lots, counts):
    """The held counts, told the own count at each version: those that each lot has at a version that is held."""
    held = [{counts[version] for _, other, floor, applied in copies if other == lot
             for version in range(len(counts)) if floor <= version <= applied} for lot in range(lots)]
    return tuple(sorted(set.intersection(*held)))


def plain_served(copies, lots, counts, fence, least):
    found = [count for count in plain_held(copies, lots, counts) if count >= least and count >= fence]
    return found[-1] if found else None


def plain_weak(fleet, counts, fence, least):
    """All weak sets, out of all sets of live houses, by the words of the document."""
    def served(gone):
        return plain_served([copy for copy in fleet.copies if copy[0] not in gone], fleet.lots, counts, fence, least) is not None
    live = [house for house in range(fleet.houses) if house not in fleet.lost]
    if not served(()):
        return ((),)
    return tuple(some for many in range(len(live) + 1) for some in combinations(live, many)
                 if not served(some) and all(served(set(some) - {house}) for house in some))


def drawn_fleet(draw, newest, lots=None, houses=None, deeds=40):
    """A drawn fleet whose copies have numbers around a newest version, some of them beyond it."""
    fleet = Fleet(lots or draw.randint(1, 4), houses or draw.randint(1, 6))
    numbers = [number for number in (0, newest // 2, newest - 1, newest, newest + 1, *range(newest)) if 0 <= number <= 200]
    for _ in range(deeds):
        deed, args = drawn_deed(draw, fleet.lots, fleet.houses, numbers, 0)
        if deed != "lose" or draw.random() < 0.2:
            told_by(getattr(fleet, deed), *args)
    return fleet


def all_of(fleet):
    return fleet.lots, fleet.houses, fleet.lost, fleet.copies


def made():
    """A fleet with a lost house, an empty one, and copies with room for all deeds."""
    fleet = Fleet(4, 6)
    for house, lot, floor, applied in ((0, 0, 3, 9), (0, 3, 0, 0), (2, 0, 0, 200), (5, 1, 7, 7)):
        fleet.place(house, lot)
        fleet.ship(house, lot, applied)
        fleet.clean(house, lot, floor)
    fleet.lose(3)
    return fleet


HOUSE = given(errors.InvalidHouse, *NO_NUMBERS, 6)
LOT = given(errors.InvalidLot, *NO_NUMBERS, 4)
NUMBER = given(errors.InvalidNumber, *NO_NUMBERS, 201)
NO_FLEET = ("fleet", made(), given(errors.NotAFleet, *NO_OBJECTS, made().copies, LOG, Fleet))
NO_LOG = ("log", LOG, given(errors.NotALog, *NO_OBJECTS, LOG.changes))
NO_ASKER = ("asker", "a", given(errors.InvalidAsker, *NO_ASKERS))
NO_LEAST = ("least", 0, given(errors.InvalidNumber, *NO_COUNTS))


class FleetTest(unittest.TestCase):
    def test_a_new_fleet(self):
        for lots, houses in ((1, 1), (4, 6), (2, 3)):
            fleet = Fleet(lots, houses)
            self.assertEqual(all_of(fleet), (lots, houses, (), ()))
            self.assertEqual(all_of(Fleet(houses=houses, lots=lots)), all_of(fleet))
            self.assertTrue(fleet and fleet == fleet and fleet != Fleet(lots, houses) and not fleet == Fleet(lots, houses))
            for value in NO_OBJECTS:
                self.assertTrue(fleet != value and not fleet == value)

    def test_wrong_sizes(self):
        check_calls(self, Fleet, ("lots", 4, given(errors.InvalidNumber, *NO_NUMBERS, 0, 5)),
                    ("houses", 6, given(errors.InvalidNumber, *NO_NUMBERS, 0, 7)))
        check_calls(self, Fleet, ("lots", 1, []), ("houses", 1, []))

    def check(self, name, *arguments):
        check_calls(self, fresh(made, name, all_of), *arguments)

    def test_wrong_arguments(self):
        good = [("house", 0, HOUSE), ("lot", 0, LOT)]
        self.check("place", ("house", 0, HOUSE), ("lot", 2, LOT))
        self.check("ship", *good, ("number", 200, NUMBER))
        self.check("clean", *good, ("number", 9, NUMBER))
        self.check("lose", ("house", 5, HOUSE))
        self.check("back", ("house", 3, HOUSE))
        self.check("move", *good, ("target", 1, HOUSE))

    def test_wrong_arguments_ahead_of_houses(self):
        for house in (1, 3):
            for name, args, error, value in (("place", (house, 4), errors.InvalidLot, 4), ("ship", (house, 0, 201), errors.InvalidNumber, 201),
                                             ("clean", (house, 0, True), errors.InvalidNumber, True),
                                             ("move", (house, 0, 6), errors.InvalidHouse, 6)):
                self.assertEqual(told_by(getattr(made(), name), *args), (error, {"given": value}))

    def test_what_comes_last(self):
        told = {
            ("place", 3, 0): (errors.Lost, 3), ("place", 0, 0): (errors.Present, 0), ("place", 2, 0): (errors.Present, 2),
            ("ship", 3, 0, 0): (errors.Lost, 3), ("ship", 0, 1, 0): (errors.Absent, 0), ("ship", 0, 0, 8): (errors.InvalidNumber, 8),
            ("ship", 0, 0, 0): (errors.InvalidNumber, 0), ("ship", 1, 0, 0): (errors.Absent, 1), ("ship", 2, 0, 199): (errors.InvalidNumber, 199),
            ("clean", 3, 0, 0): (errors.Lost, 3), ("clean", 0, 1, 0): (errors.Absent, 0), ("clean", 0, 0, 2): (errors.InvalidNumber, 2),
            ("clean", 0, 0, 10): (errors.InvalidNumber, 10), ("clean", 0, 0, 0): (errors.InvalidNumber, 0), ("clean", 5, 1, 6): (errors.InvalidNumber, 6),
            ("lose", 3): (errors.Lost, 3), ("back", 0): (errors.Live, 0), ("back", 1): (errors.Live, 1),
            ("move", 3, 0, 3): (errors.Lost, 3), ("move", 1, 0, 3): (errors.Absent, 1), ("move", 0, 0, 3): (errors.Lost, 3),
            ("move", 0, 0, 2): (errors.Present, 2), ("move", 0, 0, 0): (errors.Present, 0), ("move", 0, 1, 2): (errors.Absent, 0),
        }
        for (name, *args), (error, value) in told.items():
            self.assertEqual(told_by(fresh(made, name, all_of), *args), (error, {"given": value}), (name, args))

    def test_just_at_the_bounds(self):
        for name, args, copy in (("ship", (0, 0, 9), (0, 0, 3, 9)), ("ship", (0, 0, 10), (0, 0, 3, 10)), ("clean", (0, 0, 3), (0, 0, 3, 9)),
                                 ("clean", (0, 0, 9), (0, 0, 9, 9)), ("move", (0, 0, 1), (1, 0, 3, 9)), ("place", (0, 1), (0, 1, 0, 0))):
            fleet = made()
            self.assertIsNone(getattr(fleet, name)(*args))
            self.assertIn(copy, fleet.copies)

    def test_lost_and_back(self):
        fleet = made()
        self.assertIsNone(fleet.lose(0))
        self.assertEqual((fleet.lost, fleet.copies), ((0, 3), ((2, 0, 0, 200), (5, 1, 7, 7))))
        self.assertIsNone(fleet.back(3))
        self.assertIsNone(fleet.back(0))
        self.assertEqual((fleet.lost, fleet.copies), ((), ((2, 0, 0, 200), (5, 1, 7, 7))))
        fleet.place(0, 0)
        self.assertEqual(fleet.copies[0], (0, 0, 0, 0))

    def test_drawn_deeds_beside_plain_books(self):
        draw = random.Random(35)
        seen = set()
        for _ in range(60):
            lots, houses = draw.randint(1, 4), draw.randint(1, 6)
            # Two fleets by turns: what happens to one is nothing to the other one.
            pairs = [(Fleet(lots, houses), Books(lots, houses)) for _ in range(2)]
            for _ in range(120):
                fleet, books = draw.choice(pairs)
                deed, args = drawn_deed(draw, lots, houses, (0, 1, 2, 3, 5, 50, 199, 200))
                names = [{"h": "house", "l": "lot", "n": "number", "t": "target"}[kind] for kind in DEEDS[deed]]
                named = draw.random() < 0.3
                told = told_by(getattr(fleet, deed), **dict(zip(names, args))) if named else told_by(getattr(fleet, deed), *args)
                self.assertEqual(told, books.do(deed, args), (deed, args))
                seen.add((deed, told and told[0].__name__))
                for one, kept in pairs:
                    self.assertEqual(all_of(one), (lots, houses, kept.lost(), kept.copies()))
        self.assertGreaterEqual(len(seen), 28)


class CountsTest(unittest.TestCase):
    def compare(self, draw, changes, fleet, asker):
        log = Log(changes)
        seen, counts = plain_counts(replayed(changes), asker)
        fence = plain_fence(seen, counts)
        self.assertEqual(held_counts(fleet, log, asker), plain_held(fleet.copies, fleet.lots, counts))
        self.assertEqual(held_counts(asker=asker, log=log, fleet=fleet), held_counts(fleet, log, asker))
        for least in (0, 1, fence, counts[-1], counts[-1] + 1, draw.randint(0, counts[-1]), 10 ** 59):
            expected = plain_served(fleet.copies, fleet.lots, counts, fence, least)
            self.assertEqual(served_count(fleet, log, asker, least), expected)
            self.assertEqual(served_count(least=least, asker=asker, log=log, fleet=fleet), expected)
            weak = plain_weak(fleet, counts, fence, least)
            self.assertEqual(weak_sets(fleet, log, asker, least), weak)
            self.assertEqual(weak_sets(least=least, asker=asker, log=log, fleet=fleet), weak)
        return expected, weak

    def test_drawn_logs_and_fleets(self):
        draw = random.Random(36)
        for _ in range(150):
            changes = drawn_changes(draw, draw.choice((0, 1, 5, 20, 40)))
            self.compare(draw, changes, drawn_fleet(draw, len(changes)), draw.choice(ASKERS))

    def test_one_lot_in_many_houses(self):
        draw = random.Random(37)
        found = set()
        for _ in range(100):
            changes = drawn_changes(draw, draw.randint(1, 15))
            fleet = drawn_fleet(draw, len(changes), draw.randint(1, 2), 6)
            self.compare(draw, changes, fleet, draw.choice(ASKERS))
            found.update(len(some) for some in weak_sets(fleet, Log(changes), "a", 0))
        self.assertGreaterEqual(len(found), 4)

    def test_two_hundred_changes(self):
        draw = random.Random(38)
        for keys in (6, 100):
            changes = drawn_changes(draw, 200, keys)
            for asker in ("", "ab"):
                self.compare(draw, changes, drawn_fleet(draw, 200), asker)

    def test_edges(self):
        # Of the five versions "a" has the counts 0, 1, 1, 2, 2, 3 and the fence 3.
        def held(*copies):
            fleet = Fleet(2, 6)
            for house, lot, floor, applied in copies:
                fleet.place(house, lot)
                fleet.ship(house, lot, applied)
                fleet.clean(house, lot, floor)
            return held_counts(fleet, LOG, "a"), served_count(fleet, LOG, "a", 0), served_count(fleet, LOG, "a", 3), served_count(fleet, LOG, "a", 4)
        self.assertEqual(held(), ((), None, None, None))
        self.assertEqual(held((0, 0, 0, 5)), ((), None, None, None))
        self.assertEqual(held((0, 0, 0, 5), (0, 1, 0, 0)), ((0,), None, None, None))
        self.assertEqual(held((0, 0, 0, 5), (1, 1, 5, 5)), ((3,), 3, 3, None))
        # A copy beyond the newest version holds nothing of this log, or just what is left of it.
        self.assertEqual(held((0, 0, 6, 9), (1, 1, 0, 5)), ((), None, None, None))
        self.assertEqual(held((0, 0, 5, 9), (1, 1, 0, 200)), ((3,), 3, 3, None))
        # Each lot at a version of its own: 1 and 2 have the count 1, 3 and 4 the count 2.
        self.assertEqual(held((0, 0, 1, 1), (1, 1, 2, 2)), ((1,), None, None, None))
        self.assertEqual(held((0, 0, 2, 2), (1, 1, 3, 3)), ((), None, None, None))
        # Two copies of a lot hold what the one or the other one holds.
        self.assertEqual(held((0, 0, 0, 0), (1, 0, 3, 4), (2, 1, 0, 5)), ((0, 2), None, None, None))

    def test_weak_sets_beside_losing_houses(self):
        draw = random.Random(39)
        for _ in range(60):
            changes = drawn_changes(draw, 12)
            log, asker, least = Log(changes), draw.choice(ASKERS), draw.choice((0, 0, 1, 3))
            seed = draw.random()
            fleet = drawn_fleet(random.Random(seed), 12, None, 4)
            for weak in weak_sets(fleet, log, asker, least):
                for kept in (None, *weak):
                    other = drawn_fleet(random.Random(seed), 12, None, 4)
                    self.assertEqual(all_of(other), all_of(fleet))
                    for house in weak:
                        if house != kept:
                            other.lose(house)
                    self.assertIs(served_count(other, log, asker, least) is None, kept is None)

    def test_none_served_to_begin_with(self):
        self.assertEqual(weak_sets(Fleet(1, 6), LOG, "a", 0), ((),))
        fleet = Fleet(1, 2)
        fleet.place(0, 0)
        self.assertEqual(weak_sets(fleet, LOG, "a", 0), ((),))
        fleet.ship(0, 0, 5)
        self.assertEqual((weak_sets(fleet, LOG, "a", 3), weak_sets(fleet, LOG, "a", 4)), (((0,),), ((),)))

    def test_changes_between_that_the_asker_cannot_see(self):
        draw = random.Random(40)
        for _ in range(20):
            changes, asker = drawn_changes(draw, 15), draw.choice(ASKERS)
            more = with_unseen(draw, changes, asker, 15)
            logs = Log(changes), Log(more)
            self.assertEqual(logs[0].fence(asker), logs[1].fence(asker))
            for count in range(logs[0].count(len(changes), asker) + 1):
                fleets = []
                for log in logs:
                    fleet = Fleet(2, 2)
                    for lot in (0, 1):
                        fleet.place(lot, lot)
                        fleet.ship(lot, lot, draw.randint(*log.versions(count, asker)))
                    fleets.append(fleet)
                told = [(held_counts(fleet, log, asker), served_count(fleet, log, asker, 0)) for fleet, log in zip(fleets, logs)]
                self.assertEqual(told[0], told[1])

    def test_wrong(self):
        check_calls(self, held_counts, NO_FLEET, NO_LOG, NO_ASKER)
        check_calls(self, served_count, NO_FLEET, NO_LOG, NO_ASKER, NO_LEAST)
        check_calls(self, weak_sets, NO_FLEET, NO_LOG, NO_ASKER, NO_LEAST)
        check_calls(self, served_count, NO_FLEET, NO_LOG, NO_ASKER, ("least", 10 ** 59, []))

    def test_nothing_changes(self):
        fleet = made()
        before = all_of(fleet)
        weak_sets(fleet, LOG, "a", 0), held_counts(fleet, LOG, "a"), served_count(fleet, LOG, "a", 0)
        self.assertEqual(all_of(fleet), before)


if __name__ == "__main__":
    unittest.main()

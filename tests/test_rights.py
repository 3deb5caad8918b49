"""Guards, askers, labels and policies: points 10 to 12 and the section of the rights."""

import random
import unittest
from itertools import combinations

from plainscan import errors
from plainscan.rights import (
    Policy, is_asker, is_guard, is_labels, is_open, parting_view, shows_no_more)
from tests.calls import NO_OBJECTS, NO_STRINGS, NO_TUPLES, check_calls, given, indexed

ASKERS = sorted("".join(some) for many in range(7) for some in combinations("abcdef", many))
A, B, C = ("badge", "a"), ("badge", "b"), ("badge", "c")
NO_GUARDS = (*NO_OBJECTS, ["badge", "a"], ("badge",), ("badge", "a", "b"), ("badge", "g"), ("badge", "ab"), ("badge", ""),
             ("badge", "A"), ("badge", ("a",)), ("badge", b"a"), ("badge", None), ("bad", "a"), (b"badge", "a"),
             ("not", ()), ("not", (A,)), ("not", A, A), ("not",), ("all", A), ("all", [A]), ("any", (A, None)), ("all",),
             ("all", (A, ["badge", "a"])), ("any", (A,) * 7), ("not", ("not", ("not", ("not", A)))), ((), A), (["not"], A),
             ("any", (("not", ("all", (("any", (A,)),))),)), ("all", (("any", (A,) * 5), ("all", (A,) * 5), )),
             (1, A), ("none", (A,)), ("none", ()), ("", ()), (None, (A,)), (("badge", "a"), "a"), ("badge", True))
NO_ASKERS = (*NO_STRINGS, "ba", "aa", "g", "A", "abcdefg", "a ", ",", "fa", "%")
NO_LABELS = (*NO_TUPLES, ("a", "b", "c", "d", "e"), ("b", "a"), ("a", "a"), ("",), ("A",), ("a1",),
             ("abcdefghi",), ("a b",), (b"a",), (1,), (("a",),), ("a", None), ["a"], ("a", True))


def drawn_guard(draw, levels=4):
    """A drawn guard of few nodes, of the badges a and b."""
    kind = draw.choice(("badge", "badge", "not", "all", "any")) if levels > 1 else "badge"
    if kind == "badge":
        return (kind, draw.choice("ab"))
    if kind == "not":
        return (kind, drawn_guard(draw, levels - 1))
    return (kind, tuple(drawn_guard(draw, min(levels - 1, 2)) for _ in range(draw.randint(0, 2))))


def plain_open(guard, asker):
    """Whether a guard is open, by the open ones of all askers."""
    kind, inner = guard
    if kind == "badge":
        return asker.find(inner) >= 0
    if kind == "not":
        return not plain_open(inner, asker)
    found = [plain_open(part, asker) for part in inner]
    return found.count(False) == 0 if kind == "all" else found.count(True) > 0


def plain_sees(rights, labels, asker):
    told = dict(rights)
    for label in labels:
        if label not in told or not plain_open(told[label], asker):
            return False
    return True


class KindsTest(unittest.TestCase):
    def test_guards(self):
        for badge in "abcdef":
            self.assertIs(is_guard(("badge", badge)), True)
        for guard in (("not", A), ("all", ()), ("any", ()), ("all", (A,) * 6), ("any", (A, ("not", B), ("all", ())))):
            self.assertIs(is_guard(guard), True)
        for value in NO_GUARDS:
            self.assertIs(is_guard(value), False, value)

    def test_guards_have_four_levels_at_most(self):
        guard = A
        for levels in range(1, 8):
            self.assertIs(is_guard(guard), levels <= 4)
            self.assertIs(is_guard(("any", (A, guard))), levels < 4)
            guard = ("not", guard)
        self.assertIs(is_guard(("not", ("not", ("not", ("all", ()))))), True)
        self.assertIs(is_guard(("not", ("not", ("not", ("all", (A,)))))), False)

    def test_guards_have_twelve_nodes_at_most(self):
        five, four = ("any", (A,) * 5), ("any", (A,) * 4)
        self.assertIs(is_guard(("all", (five, four))), True)
        self.assertIs(is_guard(("all", (five, five))), False)
        self.assertIs(is_guard(("all", (five, four, A))), False)
        self.assertIs(is_guard(("not", ("all", (five, ("any", (A,) * 3))))), True)
        wide = A
        for _ in range(6):
            wide = ("any", (wide,) * 6)
        self.assertIs(is_guard(wide), False)

    def test_askers(self):
        self.assertEqual(len(ASKERS), 64)
        for asker in ASKERS:
            self.assertIs(is_asker(asker), True)
        for value in NO_ASKERS:
            self.assertIs(is_asker(value), False, value)

    def test_labels(self):
        for labels in ((), ("a",), ("abcdefgh",), ("a", "aa", "ab", "b"), ("pay", "plan")):
            self.assertIs(is_labels(labels), True)
        for value in NO_LABELS:
            self.assertIs(is_labels(value), False, value)

    def test_by_name(self):
        self.assertEqual((is_guard(value=A), is_asker(value="ab"), is_labels(value=("a",))), (True, True, True))


class OpenTest(unittest.TestCase):
    def test_each_kind(self):
        self.assertEqual([is_open(A, asker) for asker in ("", "a", "b", "ab")], [False, True, False, True])
        self.assertEqual([is_open(("not", A), asker) for asker in ("", "a", "b")], [True, False, True])
        self.assertEqual([is_open(("all", (A, B)), asker) for asker in ("", "a", "b", "abc")], [False] * 3 + [True])
        self.assertEqual([is_open(("any", (A, B)), asker) for asker in ("", "a", "b", "c")], [False, True, True, False])
        self.assertEqual([is_open(("all", ()), ""), is_open(("any", ()), "abcdef")], [True, False])

    def test_drawn_guards(self):
        draw = random.Random(10)
        for _ in range(300):
            guard = drawn_guard(draw)
            if is_guard(guard):
                for asker in ("", "a", "b", "ab", "cd", "abf"):
                    self.assertIs(is_open(guard, asker), plain_open(guard, asker))
                    self.assertIs(is_open(asker=asker, guard=guard), plain_open(guard, asker))

    def test_wrong(self):
        check_calls(self, is_open, ("guard", A, given(errors.InvalidGuard, *NO_GUARDS)),
                    ("asker", "ab", given(errors.InvalidAsker, *NO_ASKERS)))


class PolicyTest(unittest.TestCase):
    policy = Policy((("a", A), ("b", ("not", B)), ("c", ("any", ()))))

    def test_sees(self):
        sees = self.policy.sees
        self.assertTrue(all(sees((), asker) for asker in ASKERS))
        self.assertEqual([sees(("a",), "a"), sees(("a",), "b"), sees(("b",), ""), sees(("b",), "b")],
                         [True, False, True, False])
        self.assertEqual([sees(("a", "b"), "a"), sees(("a", "b"), "ab"), sees(("a", "c"), "a"), sees(("d",), "a")],
                         [True, False, False, False])
        self.assertFalse(sees(("a", "d"), "a"))

    def test_sees_and_askers_of_drawn_policies(self):
        draw = random.Random(11)
        for _ in range(60):
            rights = tuple((label, drawn_guard(draw, 3)) for label in "abc" if draw.random() < 0.7)
            policy = Policy(rights)
            for many in range(5):
                for labels in combinations("abcd", many):
                    seeing = tuple(asker for asker in ASKERS if plain_sees(rights, labels, asker))
                    self.assertEqual(policy.askers(labels), seeing)
                    self.assertEqual(policy.sees(labels, "a"), "a" in seeing)
                    self.assertEqual(policy.sees(asker="bc", labels=labels), "bc" in seeing)

    def test_all_askers_ascending(self):
        self.assertEqual(Policy(()).askers(()), tuple(ASKERS))
        self.assertEqual(Policy(()).askers(("a",)), ())
        self.assertEqual(len(self.policy.askers(("a", "b"))), 16)

    def test_equal_exactly_if_the_rights_are(self):
        same = Policy((("a", A), ("b", ("not", B)), ("c", ("any", ()))))
        self.assertTrue(self.policy == same and not self.policy != same)
        # Rights that show the same need not be equal.
        for rights in ((), (("a", A), ("b", ("not", B))), (("a", A), ("b", ("not", B)), ("c", ("any", (("any", ()),))))):
            self.assertTrue(self.policy != Policy(rights) and not self.policy == Policy(rights))
        for value in (*NO_OBJECTS, self.policy.rights):
            self.assertTrue(self.policy != value and not self.policy == value)

    def test_rights_are_kept_and_policies_are_true(self):
        self.assertEqual(self.policy.rights[0], ("a", A))
        self.assertEqual(Policy(rights=()).rights, ())
        self.assertTrue(Policy(()))

    def test_wrong_rights(self):
        kind = errors.InvalidRights
        six = tuple((label, A) for label in "abcdef")
        wrongs = [
            *indexed(kind, None, *NO_TUPLES, [("a", A)]),
            *indexed(kind, 0, ("a", A), (["a", A],), (("a",),), (("a", A, A),), (("", A),), (("A", A),), (("a" * 9, A),),
                     ((1, A),), (("a", "a"),), (("a", ["badge", "a"]),), (("a", ("badge", "g")),), (None,), ((("a",), A),)),
            *indexed(kind, 1, (("a", A), ("a", B)), (("b", A), ("a", A)), (("a", A), ("ab", A, 1)), (("a", A), 3, ("a", A))),
            *indexed(kind, 6, six + (("g", A),), six + (("g", A), 5), six + (7,)),
            *indexed(kind, 5, six[:5] + (("a", A), ("g", A))),
        ]
        for guard in NO_GUARDS:
            wrongs.extend(indexed(kind, 1, (("a", A), ("b", guard))))
        check_calls(self, Policy, ("rights", six, wrongs))
        Policy((("abcdefgh", A),))

    def test_wrong_labels_and_askers(self):
        no_labels = given(errors.InvalidLabels, *NO_LABELS)
        check_calls(self, self.policy.sees, ("labels", ("a", "b", "c", "d"), no_labels),
                    ("asker", "abcdef", given(errors.InvalidAsker, *NO_ASKERS)))
        check_calls(self, self.policy.askers, ("labels", ("abcdefgh",), no_labels))


def all_views(labels, most):
    """All views of few labels, in the order of point 12."""
    views = [(some, asker) for many in range(most + 1) for some in combinations(labels, many) for asker in ASKERS]
    return sorted(views, key=lambda view: (len(view[0]), view[0], len(view[1]), view[1]))


class MoreTest(unittest.TestCase):
    def compare(self, one, two, views):
        """Compares what is told of two policies with a trial of all views."""
        parting = [view for view in views if plain_sees(one, *view) and not plain_sees(two, *view)]
        policy, other = Policy(one), Policy(two)
        self.assertEqual(parting_view(policy, other), parting[0] if parting else None)
        self.assertIs(shows_no_more(policy, other), not parting)
        return not parting

    def test_policies_near_to_one_another(self):
        draw = random.Random(12)
        views = all_views(("a", "aa", "b"), 2)
        told = []
        for _ in range(150):
            one = tuple((label, drawn_guard(draw, 3)) for label in ("a", "aa", "b") if draw.random() < 0.8)
            at = draw.randrange(len(one) + 1)
            two = tuple((label, drawn_guard(draw, 3)) if index == at else (label, guard)
                        for index, (label, guard) in enumerate(one))
            if draw.random() < 0.2:
                two = two[1:]
            told.append(self.compare(one, two, views))
            told.append(self.compare(two, one, views))
        self.assertGreater(told.count(True), 30)
        self.assertGreater(told.count(False), 30)

    def test_views_of_all_numbers_of_labels(self):
        views = all_views(("a", "b", "c", "d", "e"), 4)
        one = tuple((label, ("any", (A, ("badge", label)))) for label in "abcd")
        two = tuple((label, A) for label in "abcd")
        self.assertFalse(self.compare(one, two, views))
        self.assertTrue(self.compare(two, one, views))
        self.assertTrue(self.compare((("a", ("any", ())), ("b", B)), (("b", B),), views))

    def test_the_order_of_views(self):
        all_but_a = Policy((("x", ("not", A)), ("y", B)))
        self.assertEqual(parting_view(all_but_a, Policy(())), (("x",), ""))
        self.assertEqual(parting_view(all_but_a, Policy((("x", ("not", A)),))), (("y",), "b"))
        # Fewer badges go ahead, whatever the letters.
        several = ("any", (("badge", "f"), ("all", (A, B))))
        self.assertEqual(parting_view(Policy((("x", several),)), Policy(())), (("x",), "f"))
        self.assertEqual(parting_view(Policy((("x", several),)), Policy((("x", ("badge", "f")),))), (("x",), "ab"))

    def test_alike_though_not_equal(self):
        one, two = Policy((("x", ("not", ("not", A))),)), Policy((("x", A), ("y", ("all", (A, ("not", A))))))
        self.assertTrue(shows_no_more(one, two) and shows_no_more(two, one))
        self.assertIsNone(parting_view(one, two))

    def test_wrong(self):
        wrongs = given(errors.NotAPolicy, *NO_OBJECTS)
        for call in (shows_no_more, parting_view):
            check_calls(self, call, ("policy", Policy(()), wrongs), ("other", Policy((("a", C),)), wrongs))


if __name__ == "__main__":
    unittest.main()

import unittest
from itertools import combinations

from tellrounds.trees import find_fault
from tests.samples import GREATEST, MOST, TREES, all_plain_trees, path_tree, star_tree

BASE = (5, ((0, 1, 3), (0, 2, 4), (1, 3, 5), (2, 4, GREATEST)))
INTEGER_REASONS = ("one", "other", "delay")


def replace_at(value, path, part):
    """Return the value with another part at the path; lists on the way stay lists."""
    if path == ():
        return part
    parts = list(value)
    parts[path[0]] = replace_at(parts[path[0]], path[1:], part)
    return parts if isinstance(value, list) else tuple(parts)


def is_like(value, part):
    """Return whether both are tuples of the same size."""
    return isinstance(value, tuple) and isinstance(part, tuple) and len(value) == len(part)


def part_at(value, path):
    for at in path:
        value = value[at]
    return value


def nest(wrap, depth):
    value = ()
    for _ in range(depth):
        value = wrap(value)
    return value


def spots():
    """Return the (path, reason) of each part of BASE, in the order of the document."""
    rows = [((), "tree"), ((0,), "count"), ((1,), "edges")]
    for k in range(4):
        rows.append(((1, k), "edge"))
        rows.extend(((1, k, at), reason) for at, reason in enumerate(INTEGER_REASONS))
    return rows


def odd_values():
    """Return values of every kind that are no integers and no part of a tree."""
    return [
        None, True, False, "", "a", "ab", "abc", "tree", "0", "x" * 400, "two\nlines\n",
        (), ((),), ((), ()), (None, None, None), ("a", "b"), (1,), (0, 1, 2, 3), (True, ()),
        [], [1], [1, ()], [0, 1, 1], [[0, 1, 1]], [None] * 4000,
        {}, {"a": 1}, {"a": 1, "b": 2}, {"a": 0, "b": 1, "c": 1}, {"count": 1, "edges": ()},
        (0,) * 4000,
        nest(lambda value: (value,), 40),
        nest(lambda value: (value, value) if value == () else (value, ()), 40),
        nest(lambda value: [value], 40),
        nest(lambda value: {"a": value}, 40),
        nest(lambda value: (value, [value], {"k": value}) if value == () else (value,), 40),
    ]


def make_spoilers():
    """Return (fault, function that makes it) in the order of the document."""
    rows = [
        (((), "tree"), list),
        (((0,), "count"), lambda value: replace_at(value, (0,), True)),
        (((1,), "edges"), lambda value: replace_at(value, (1,), list(value[1]))),
    ]
    for k in range(4):
        rows.extend(edge_spoilers(k))
    return rows


def edge_spoilers(k):
    def part(at, worth):
        return lambda value: replace_at(value, (1, k, at), worth)

    def pair(one, other):
        return lambda value: replace_at(value, (1, k), (one, other, part_at(value, (1, k))[2]))

    def edge(value):
        return replace_at(value, (1, k), list(value[1][k]))

    rows = [(((1, k), "edge"), edge), (((1, k, 0), "one"), part(0, -1)), (((1, k, 1), "other"), part(1, 0)),
            (((1, k, 2), "delay"), part(2, 0))]
    if k > 0:
        rows.append((((1, k), "order"), pair(0, 1)))
    if k > 1:
        rows.append((((1, k), "cycle"), pair(k - 1, k)))
    return rows


def is_joined(pairs, one, other):
    """Return whether the pairs join the two vertices."""
    reached = {one}
    for _ in pairs:
        for a, b in pairs:
            if a in reached or b in reached:
                reached |= {a, b}
    return other in reached


class TreesTest(unittest.TestCase):
    def test_none_for_trees(self):
        for tree in TREES + [BASE]:
            with self.subTest(tree=tree):
                self.assertIsNone(find_fault(tree))

    def test_every_choice_of_pairs(self):
        # count ** (count - 2) of the choices are trees; the rest close a cycle.
        for count in (2, 3, 4, 5, 6):
            found = 0
            for pairs in combinations(list(combinations(range(count), 2)), count - 1):
                closing = [k for k, (a, b) in enumerate(pairs) if is_joined(pairs[:k], a, b)]
                expected = ((1, closing[0]), "cycle") if closing else None
                tree = (count, tuple((a, b, 1) for a, b in pairs))
                self.assertEqual(find_fault(tree), expected, tree)
                found += expected is None
            self.assertEqual(found, count ** (count - 2))

    def test_all_plain_trees(self):
        for tree in all_plain_trees(6):
            self.assertIsNone(find_fault(tree))


class PartsTest(unittest.TestCase):
    def check(self, value, path, reason):
        with self.subTest(value=repr(value)[:200]):
            fault = find_fault(value)
            self.assertEqual(fault, (path, reason))
            self.assertIs(type(fault), tuple)
            self.assertIs(type(fault[0]), tuple)
            self.assertNotIn(True, [type(at) is bool for at in fault[0]])

    def test_odd_values_in_the_place_of_each_part(self):
        for path, reason in spots():
            part = part_at(BASE, path)
            for odd in odd_values():
                if not is_like(odd, part):
                    self.check(replace_at(BASE, path, odd), path, reason)

    def test_tuples_of_the_right_size_with_wrong_parts(self):
        for value in (((), ()), ("a", "b"), (None, ()), (True, ()), ((1,), ())):
            self.check(value, (0,), "count")
        for parts in ((0, 1, 2, 3), (None,) * 4, ("abc",) * 4, ((),) * 4):
            self.check((5, parts), (1, 0), "edge")
        for k in range(4):
            for edge in ((None, None, None), ("a", "b", "c"), ((), (), ()), ([0], [1], [1])):
                self.check(replace_at(BASE, (1, k), edge), (1, k, 0), "one")

    def test_lists_in_the_place_of_tuples(self):
        for path, reason in spots():
            part = part_at(BASE, path)
            if isinstance(part, tuple):
                self.check(replace_at(BASE, path, list(part)), path, reason)

    def test_bools_that_equal_the_right_integer(self):
        self.check((True, ()), (0,), "count")
        self.check((2, ((False, 1, 1),)), (1, 0, 0), "one")
        self.check((2, ((0, True, 1),)), (1, 0, 1), "other")
        self.check((2, ((0, 1, True),)), (1, 0, 2), "delay")
        self.check((3, ((0, 1, 1), (True, 2, 1))), (1, 1, 0), "one")

    def test_size_of_the_value(self):
        for value in ((), (1,), (1, (), ()), (5, BASE[1], None), BASE + BASE):
            self.check(value, (), "tree")

    def test_count_at_its_limits(self):
        for count in (0, -1, MOST + 1, 10 ** 29, -10 ** 29):
            self.check((count, ()), (0,), "count")
        self.check(path_tree(range(MOST + 1)), (0,), "count")
        self.check(star_tree(MOST + 1, 3), (0,), "count")
        self.assertIsNone(find_fault((1, ())))
        self.assertIsNone(find_fault(path_tree(range(MOST))))

    def test_number_of_edges(self):
        path = path_tree(range(MOST))
        self.check((MOST, path[1][:-1]), (1,), "edges")
        self.check((MOST - 1, path[1]), (1,), "edges")
        self.check((1, ((0, 1, 1),)), (1,), "edges")
        self.check((2, ()), (1,), "edges")
        self.check((2, ((0, 1, 1), (0, 1, 1))), (1,), "edges")
        for k in range(4):
            self.check((5, BASE[1][:k] + BASE[1][k + 1:]), (1,), "edges")

    def test_size_of_an_edge(self):
        for k in range(4):
            for edge in ((), (0,), (0, 1), BASE[1][k][:2], BASE[1][k] + (1,), BASE[1][k] * 2):
                self.check(replace_at(BASE, (1, k), edge), (1, k), "edge")

    def test_one_at_its_limits(self):
        for k in range(4):
            for one in (-1, 5, 6, 10 ** 29, -10 ** 29):
                self.check(replace_at(BASE, (1, k, 0), one), (1, k, 0), "one")
        # The greatest vertex is a vertex, but nothing is greater than it.
        self.check(replace_at(BASE, (1, 3, 0), 4), (1, 3, 1), "other")
        self.check((1 + 1, ((1, 1, 1),)), (1, 0, 1), "other")
        self.check((MOST, path_tree(range(MOST))[1][:-1] + ((MOST, MOST + 1, 1),)), (1, MOST - 2, 0), "one")

    def test_other_at_its_limits(self):
        for k in range(4):
            one = BASE[1][k][0]
            for other in (5, one, one - 1, -1, 10 ** 29, -10 ** 29):
                self.check(replace_at(BASE, (1, k, 1), other), (1, k, 1), "other")
        self.check((3, ((1, 0, 1), (1, 2, 1))), (1, 0, 1), "other")
        self.check((MOST, path_tree(range(MOST))[1][:-1] + ((MOST - 2, MOST, 1),)), (1, MOST - 2, 1), "other")

    def test_delay_at_its_limits(self):
        for k in range(4):
            for delay in (0, -1, GREATEST + 1, 10 ** 29, -10 ** 29):
                self.check(replace_at(BASE, (1, k, 2), delay), (1, k, 2), "delay")
            for delay in (1, 2, GREATEST - 1, GREATEST):
                self.assertIsNone(find_fault(replace_at(BASE, (1, k, 2), delay)))


class OrderTest(unittest.TestCase):
    def check(self, value, path, reason):
        self.assertEqual(find_fault(value), (path, reason), value)

    def test_edges_in_another_order(self):
        for k in range(3):
            edges = list(BASE[1])
            edges[k], edges[k + 1] = edges[k + 1], edges[k]
            self.check((5, tuple(edges)), (1, k + 1), "order")
        self.check((5, BASE[1][::-1]), (1, 1), "order")

    def test_only_the_edge_before_counts(self):
        self.check((4, ((1, 2, 1), (0, 3, 1), (1, 2, 1))), (1, 1), "order")
        self.check((4, ((0, 1, 1), (2, 3, 1), (0, 2, 1))), (1, 2), "order")

    def test_repeated_edges(self):
        # An equal pair is out of order before it closes a cycle, whatever its delay.
        for delay in (1, 2, 3, GREATEST):
            self.check((3, ((0, 1, 2), (0, 1, delay))), (1, 1), "order")
        self.check((4, ((0, 1, 1), (1, 2, 1), (1, 2, 2))), (1, 2), "order")
        self.check((4, ((0, 1, 1), (1, 2, 1), (0, 1, 1))), (1, 2), "order")

    def test_delays_have_no_part_in_the_order(self):
        self.assertIsNone(find_fault((3, ((0, 1, GREATEST), (0, 2, 1)))))
        self.assertIsNone(find_fault((3, ((0, 2, GREATEST), (1, 2, 1)))))

    def test_one_is_compared_before_other(self):
        self.assertIsNone(find_fault((4, ((0, 3, 1), (1, 2, 1), (2, 3, 1)))))
        self.check((4, ((1, 2, 1), (0, 3, 1), (2, 3, 1))), (1, 1), "order")

    def test_cycles(self):
        self.check((4, ((0, 1, 1), (0, 2, 1), (1, 2, 1))), (1, 2), "cycle")
        self.check((5, ((0, 1, 1), (0, 2, 1), (1, 2, 1), (2, 3, 1))), (1, 2), "cycle")
        self.check((5, ((0, 1, 1), (1, 2, 1), (2, 3, 1), (0, 3, 1))), (1, 3), "order")
        self.check((5, ((0, 1, 1), (0, 3, 1), (1, 2, 1), (2, 3, 1))), (1, 3), "cycle")
        # Two parts that are joined late: the groups of both must become one.
        self.check((6, ((0, 1, 1), (2, 3, 1), (0, 5, 1), (1, 2, 1), (3, 5, 1))), (1, 2), "order")
        self.check((6, ((0, 1, 1), (0, 5, 1), (1, 2, 1), (2, 3, 1), (3, 5, 1))), (1, 4), "cycle")
        self.check((7, ((0, 5, 1), (1, 4, 1), (2, 3, 1), (3, 4, 1), (4, 5, 1), (2, 5, 1))), (1, 5), "order")
        self.check((7, ((0, 5, 1), (1, 4, 1), (1, 5, 1), (2, 3, 1), (2, 4, 1), (3, 5, 1))), (1, 5), "cycle")

    def test_cycle_of_all_but_one_vertex(self):
        path = tuple((k, k + 1, 1) for k in range(1, MOST - 2))
        edges = ((0, 1, 1), (0, MOST - 2, 1)) + path
        self.check((MOST, edges), (1, MOST - 2), "cycle")


class FirstFaultTest(unittest.TestCase):
    def test_each_fault_alone(self):
        for fault, spoil in make_spoilers():
            with self.subTest(fault=fault):
                self.assertEqual(find_fault(spoil(BASE)), fault)

    def test_the_first_of_two_faults(self):
        spoilers = make_spoilers()
        for at, (first, spoil_first) in enumerate(spoilers):
            for second, spoil_second in spoilers[at + 1:]:
                with self.subTest(first=first, second=second):
                    self.assertEqual(find_fault(spoil_first(spoil_second(BASE))), first)

    def test_the_first_of_all_faults(self):
        value = BASE
        for fault, spoil in reversed(make_spoilers()):
            value = spoil(value)
            with self.subTest(fault=fault):
                self.assertEqual(find_fault(value), fault)


class UnchangedTest(unittest.TestCase):
    def test_no_argument_is_changed(self):
        values = odd_values() + [replace_at(BASE, path, odd) for path, _ in spots() for odd in odd_values()]
        for value in values + [[5, list(BASE[1])], (5, [list(edge) for edge in BASE[1]]), BASE]:
            before = repr(value)
            first = find_fault(value)
            self.assertEqual(repr(value), before)
            self.assertEqual(find_fault(value), first)


if __name__ == "__main__":
    unittest.main()

import copy
import unittest

from tellrounds.needs import need_from
from tellrounds.schedules import best_schedule
from tellrounds.witnesses import check_certificate, find_witness, witness_value
from tests.oracles import all_witnesses, is_right_schedule, right_arrivals, right_witness_value, schedules_of_orders
from tests.samples import D, GREATEST, LARGE, MIXED_LARGE, MIXED_SMALL, MOST, T, TREES, heap_tree, path_tree, star_tree
from tests.values import FEW, JUNK, changed

RIGHT = (1, ((0, ()), (2, ()), (3, ())))


class WitnessValueTest(unittest.TestCase):
    def check(self, tree, source, value):
        before = copy.deepcopy(value)
        found = witness_value(tree, source, value)
        self.assertEqual(found, right_witness_value(tree, source, value), (tree, source, value))
        self.assertIn(type(found), (int, type(None)))
        self.assertEqual(value, before)

    def test_all_witnesses_of_small_trees(self):
        for tree in [(1, ()), (2, ((0, 1, 3),)), T, D, star_tree(5, 2), path_tree(range(5))] + MIXED_SMALL:
            for source in range(tree[0]):
                for value in all_witnesses(tree, source):
                    self.assertIsNotNone(witness_value(tree, source, value))
                    self.check(tree, source, value)

    def test_any_value(self):
        for tree in [(1, ()), (2, ((0, 1, 3),)), T, D, star_tree(MOST, 7)]:
            for source in {0, 1, 7, tree[0] - 1} & set(range(tree[0])):
                for value in JUNK:
                    self.check(tree, source, value)
                    self.check(tree, source, (source, value))
                    self.check(tree, source, (source, (value,)))
                    self.check(tree, source, (value, ()))

    def test_one_part_changed(self):
        for tree in [(1, ()), (2, ((0, 1, 3),)), D, T, heap_tree(7)] + MIXED_SMALL[:6]:
            for source in range(tree[0]):
                for value in changed(find_witness(tree, source), FEW):
                    self.check(tree, source, value)
        for value in changed(RIGHT, JUNK):
            self.check(T, 1, value)

    def test_one_part_of_a_large_one_changed(self):
        for tree in LARGE + MIXED_LARGE[::9]:
            for source in (0, tree[0] - 1):
                for value in changed(find_witness(tree, source), FEW):
                    self.check(tree, source, value)

    def test_one_part_changed_twice(self):
        for once in changed((1, ((3, ((4, ()),)),)), [True, (), None, [], (2, ()), (3, ())]):
            for twice in changed(once, [False, (4, ()), 1]):
                self.check(T, 1, twice)

    def test_written_out(self):
        self.assertEqual(witness_value(T, 1, RIGHT), 3)
        self.assertEqual(witness_value(T, 1, (1, ())), 0)
        self.assertEqual(witness_value(T, 1, (1, ((3, ()),))), 1)
        self.assertEqual(witness_value(T, 1, (1, ((3, ((4, ()),)),))), 2)
        self.assertEqual(witness_value(T, 1, (1, ((2, ()), (3, ((4, ()),))))), 2)
        self.assertEqual(witness_value(T, 0, (0, ((1, ((2, ()), (3, ((4, ()),)))),))), 3)
        self.assertEqual(witness_value((1, ()), 0, (0, ())), 0)
        self.assertEqual(witness_value(D, 0, (0, ((1, ()), (2, ())))), 2)
        self.assertEqual(witness_value(D, 0, (0, ((1, ()),))), 5)

    def test_wrong_vertices(self):
        for value in (
            (0, ()),
            (1, ((0, ()), (2, ()), (4, ()))),
            (1, ((1, ()),)),
            (1, ((0, ()), (0, ()))),
            (1, ((2, ()), (0, ()))),
            (1, ((0, ()), (2, ()), (5, ()))),
            (1, ((-1, ()),)),
            (1, ((0, ((1, ()),)),)),
            (1, ((3, ((1, ()),)),)),
            (1, ((3, ((1, ()), (4, ()))),)),
            (1, ((3, ((3, ()),)),)),
            (1, ((3, ((4, ((3, ()),)),)),)),
        ):
            self.assertIsNone(witness_value(T, 1, value), value)

    def test_wrong_kinds(self):
        for value in (
            [1, ()],
            (1, []),
            (True, ()),
            (1, (0, ())),
            (1, ([0, ()],)),
            (1, ((False, ()),)),
            (1, ((0, []),)),
            (1, ((0, None),)),
            (1,),
            (1, (), ()),
            (1, ((0, (), ()),)),
            (1, ((0,),)),
            (1, {}),
            (1, ((3, ((4, ()), None)),)),
            (1, ((0, ()), (2, ()), (3, ()), None)),
            (1, (None,)),
            (1, ((None, ()),)),
        ):
            self.assertIsNone(witness_value(T, 1, value), value)
        self.assertIsNone(witness_value((1, ()), 0, (False, ())))


class FindWitnessTest(unittest.TestCase):
    def test_its_value_is_the_need(self):
        for tree in TREES + MIXED_LARGE + MIXED_SMALL:
            for source in range(tree[0]):
                value = find_witness(tree, source)
                self.assertEqual(right_witness_value(tree, source, value), need_from(tree, source), (tree, source))
                self.assertEqual(witness_value(tree, source, value), need_from(tree, source), (tree, source))

    def test_one_vertex(self):
        self.assertEqual(find_witness((1, ()), 0), (0, ()))


class CheckCertificateTest(unittest.TestCase):
    def check(self, tree, source, value):
        before = copy.deepcopy(value)
        self.assertIs(check_certificate(tree, source, value), self.expect(tree, source, value), (tree, source, value))
        self.assertEqual(value, before)

    def expect(self, tree, source, value):
        if type(value) is not tuple or len(value) != 2 or not is_right_schedule(tree, source, value[0]):
            return False
        return max(right_arrivals(tree, source, value[0])) == right_witness_value(tree, source, value[1])

    def test_right_ones(self):
        for tree in TREES + MIXED_LARGE + MIXED_SMALL:
            for source in range(tree[0]):
                value = (best_schedule(tree, source), find_witness(tree, source))
                self.assertIs(check_certificate(tree, source, value), True)

    def test_all_schedules_and_witnesses_of_small_trees(self):
        for tree in [(1, ()), (2, ((0, 1, 3),)), T, D, star_tree(4, 1)] + MIXED_SMALL[:15]:
            for source in range(tree[0]):
                witnesses = all_witnesses(tree, source)[:60]
                for entries in list(schedules_of_orders(tree, source))[:30]:
                    for witness in witnesses:
                        self.check(tree, source, (entries, witness))

    def test_any_value(self):
        schedule = best_schedule(T, 1)
        witness = find_witness(T, 1)
        for value in JUNK:
            self.check(T, 1, value)
            self.check(T, 1, (schedule, value))
            self.check(T, 1, (value, witness))
            self.check(T, 1, (value, value))
            self.check((1, ()), 0, (value, (0, ())))
            self.check((1, ()), 0, ((None,), value))

    def test_one_part_changed(self):
        for tree in [(1, ()), (2, ((0, 1, 3),)), T, D] + MIXED_SMALL[:4]:
            for source in range(tree[0]):
                for value in changed((best_schedule(tree, source), find_witness(tree, source)), FEW):
                    self.check(tree, source, value)

    def test_one_part_of_a_large_one_changed(self):
        for tree in LARGE[::2]:
            for value in changed((best_schedule(tree, 2), find_witness(tree, 2)), [None, True, 0, (), (0, ()), []]):
                self.check(tree, 2, value)

    def test_written_out(self):
        self.assertIs(check_certificate(T, 1, ((1, None, 2, 0, 1), RIGHT)), True)
        self.assertIs(check_certificate(T, 1, (RIGHT, (1, None, 2, 0, 1))), False)
        self.assertIs(check_certificate(T, 1, [(1, None, 2, 0, 1), RIGHT]), False)
        self.assertIs(check_certificate(T, 1, ((1, None, 2, 0, 1), RIGHT, None)), False)
        self.assertIs(check_certificate(T, 1, ((1, None, 2, 0, 1),)), False)
        self.assertIs(check_certificate(T, 1, ((1, None, 2, 0, 1), (1, ()))), False)
        self.assertIs(check_certificate(T, 1, ((1, None, 3, 0, 1), RIGHT)), False)
        self.assertIs(check_certificate(T, 1, ((0, None, 2, 1, 2), RIGHT)), True)
        self.assertIs(check_certificate(T, 0, ((1, None, 2, 0, 1), RIGHT)), False)
        self.assertIs(check_certificate((1, ()), 0, ((None,), (0, ()))), True)

    def test_numbers_are_compared_only_for_right_ones(self):
        # The finish time of a wrong schedule, and no value at all of a wrong witness.
        self.assertIs(check_certificate(T, 1, ((1, None, 1, 2, 2), RIGHT)), False)
        self.assertIs(check_certificate((1, ()), 0, (None, None)), False)
        self.assertIs(check_certificate((1, ()), 0, ((None,), None)), False)

    def test_great_delays(self):
        tree = (3, ((0, 1, GREATEST), (1, 2, GREATEST)))
        self.assertIs(check_certificate(tree, 0, ((None, 0, GREATEST), (0, ((1, ((2, ()),)),)))), True)
        self.assertIs(check_certificate(tree, 0, ((None, 0, GREATEST + 1), (0, ((1, ((2, ()),)),)))), False)


if __name__ == "__main__":
    unittest.main()

"""Rows: points RW1 (conditions) and RW2 (least rows)."""

import random
import unittest

from askedfor.rows import Rows


def rows_with(many):
    """Rows with so many variables."""
    rows = Rows()
    for _ in range(many):
        rows.fresh()
    return rows


def least_by_adding(many, conditions):
    """The least rows as point RW2 finds them: add what is asked for until nothing changes."""
    found = [set() for _ in range(many)]
    changed = True
    while changed:
        before = [set(row) for row in found]
        for kind, *condition in conditions:
            if kind == "contain":
                row, name = condition
                found[row].add(name)
            elif kind == "flow":
                source, target, without = condition
                found[target] |= found[source] - set(without)
            else:
                one, other = condition
                found[one] |= found[other]
                found[other] |= found[one]
        changed = before != found
    return [tuple(sorted(row)) for row in found]


class VariablesTest(unittest.TestCase):
    def test_example(self):
        rows = Rows()
        one, two, three = rows.fresh(), rows.fresh(), rows.fresh()
        rows.contain(one, "get")
        rows.contain(one, "put")
        rows.flow(one, two, ["get"])
        rows.same(two, three)
        self.assertEqual(rows.least(), [("get", "put"), ("put",), ("put",)])

    def test_variables_are_counted_from_zero(self):
        rows = Rows()
        self.assertEqual([rows.fresh() for _ in range(5)], [0, 1, 2, 3, 4])
        self.assertEqual(Rows().fresh(), 0)

    def test_no_variables(self):
        self.assertEqual(Rows().least(), [])

    def test_no_condition(self):
        self.assertEqual(rows_with(3).least(), [(), (), ()])

    def test_the_kinds_of_values(self):
        rows = rows_with(2)
        rows.contain(0, "o")
        self.assertIs(type(rows.fresh()), int)
        self.assertIs(type(rows.least()), list)
        self.assertIs(type(rows.least()[0]), tuple)

    def test_the_methods_return_nothing(self):
        rows = rows_with(2)
        self.assertIsNone(rows.contain(0, "o"))
        self.assertIsNone(rows.flow(0, 1, []))
        self.assertIsNone(rows.same(0, 1))

    def test_objects_share_nothing(self):
        one, other = rows_with(2), rows_with(2)
        one.contain(0, "o")
        one.flow(0, 1, [])
        self.assertEqual(one.least(), [("o",), ("o",)])
        self.assertEqual(other.least(), [(), ()])


class EachConditionTest(unittest.TestCase):
    def test_contain(self):
        rows = rows_with(2)
        rows.contain(1, "o")
        self.assertEqual(rows.least(), [(), ("o",)])

    def test_contain_twice(self):
        rows = rows_with(1)
        rows.contain(0, "o")
        rows.contain(0, "o")
        self.assertEqual(rows.least(), [("o",)])

    def test_ascending_without_duplicates(self):
        rows = rows_with(2)
        for name in ("put", "get", "a2", "a10", "z", "get", "b_", "b"):
            rows.contain(0, name)
            rows.contain(1, name)
        rows.flow(0, 1, [])
        expected = ("a10", "a2", "b", "b_", "get", "put", "z")
        self.assertEqual(rows.least(), [expected, expected])

    def test_flow_alone(self):
        rows = rows_with(2)
        rows.flow(0, 1, [])
        self.assertEqual(rows.least(), [(), ()])

    def test_flow_goes_one_way(self):
        rows = rows_with(2)
        rows.contain(0, "a")
        rows.contain(1, "b")
        rows.flow(0, 1, [])
        self.assertEqual(rows.least(), [("a",), ("a", "b")])

    def test_flow_without_some(self):
        rows = rows_with(2)
        for name in ("a", "b", "c", "d"):
            rows.contain(0, name)
        rows.flow(0, 1, ["a", "c", "nowhere"])
        self.assertEqual(rows.least(), [("a", "b", "c", "d"), ("b", "d")])

    def test_flow_without_all(self):
        rows = rows_with(2)
        rows.contain(0, "a")
        rows.flow(0, 1, ["a"])
        self.assertEqual(rows.least(), [("a",), ()])

    def test_what_is_left_out_may_come_in_otherwise(self):
        rows = rows_with(3)
        rows.contain(0, "a")
        rows.flow(0, 1, ["a"])
        rows.flow(0, 2, [])
        rows.flow(2, 1, ["b"])
        self.assertEqual(rows.least(), [("a",), ("a",), ("a",)])
        rows = rows_with(2)
        rows.contain(0, "a")
        rows.contain(1, "a")
        rows.flow(0, 1, ["a"])
        self.assertEqual(rows.least(), [("a",), ("a",)])

    def test_two_flows_between_the_same_variables(self):
        rows = rows_with(2)
        for name in ("a", "b", "c"):
            rows.contain(0, name)
        rows.flow(0, 1, ["a", "b"])
        rows.flow(0, 1, ["b", "c"])
        self.assertEqual(rows.least(), [("a", "b", "c"), ("a", "c")])

    def test_same_goes_both_ways(self):
        rows = rows_with(3)
        rows.contain(0, "a")
        rows.contain(1, "b")
        rows.same(0, 1)
        self.assertEqual(rows.least(), [("a", "b"), ("a", "b"), ()])

    def test_a_flow_into_the_variable_itself(self):
        for without in ([], ["a"], ["b"]):
            rows = rows_with(1)
            rows.contain(0, "a")
            rows.flow(0, 0, without)
            self.assertEqual(rows.least(), [("a",)])

    def test_same_as_itself(self):
        rows = rows_with(2)
        rows.contain(0, "a")
        rows.same(0, 0)
        rows.same(1, 1)
        self.assertEqual(rows.least(), [("a",), ()])


class SeveralConditionsTest(unittest.TestCase):
    def test_a_chain_in_both_orders(self):
        for order in (range(9), range(8, -1, -1)):
            rows = rows_with(10)
            rows.contain(0, "a")
            for at in order:
                rows.flow(at, at + 1, [])
            rows.contain(5, "b")
            self.assertEqual(rows.least(), [("a",)] * 5 + [("a", "b")] * 5)

    def test_a_chain_that_loses_one_after_the_other(self):
        rows = rows_with(4)
        for name in ("c", "b", "a"):
            rows.contain(0, name)
        rows.flow(0, 1, ["a"])
        rows.flow(1, 2, ["b"])
        rows.flow(2, 3, ["c"])
        self.assertEqual(rows.least(), [("a", "b", "c"), ("b", "c"), ("c",), ()])

    def test_a_long_chain(self):
        rows = rows_with(5000)
        for at in range(4999):
            rows.flow(at, at + 1, [])
        rows.contain(0, "a")
        self.assertEqual(rows.least(), [("a",)] * 5000)

    def test_a_long_chain_of_same(self):
        rows = rows_with(5000)
        for at in range(4999, 0, -1):
            rows.same(at, at - 1)
        rows.contain(2500, "a")
        self.assertEqual(rows.least(), [("a",)] * 5000)

    def test_a_cycle(self):
        rows = rows_with(4)
        rows.flow(0, 1, [])
        rows.flow(1, 2, [])
        rows.flow(2, 0, [])
        rows.contain(1, "a")
        rows.contain(2, "b")
        rows.flow(2, 3, ["a"])
        self.assertEqual(rows.least(), [("a", "b"), ("a", "b"), ("a", "b"), ("b",)])

    def test_a_cycle_that_leaves_something_out(self):
        rows = rows_with(3)
        rows.contain(0, "a")
        rows.contain(0, "b")
        rows.flow(0, 1, ["a"])
        rows.flow(1, 2, ["b"])
        rows.flow(2, 0, [])
        self.assertEqual(rows.least(), [("a", "b"), ("b",), ()])
        rows.contain(1, "c")
        self.assertEqual(rows.least(), [("a", "b", "c"), ("b", "c"), ("c",)])

    def test_same_before_and_behind_other_conditions(self):
        conditions = [
            lambda rows: rows.same(0, 1),
            lambda rows: rows.contain(0, "a"),
            lambda rows: rows.contain(1, "b"),
            lambda rows: rows.flow(1, 2, ["b"]),
            lambda rows: rows.flow(3, 0, ["c"]),
            lambda rows: rows.contain(3, "c"),
            lambda rows: rows.contain(3, "d"),
        ]
        for start in range(len(conditions)):
            rows = rows_with(4)
            for condition in conditions[start:] + conditions[:start]:
                condition(rows)
            self.assertEqual(
                rows.least(), [("a", "b", "d"), ("a", "b", "d"), ("a", "d"), ("c", "d")]
            )

    def test_same_between_variables_that_flow_into_each_other(self):
        for without in ([], ["a"], ["a", "b"]):
            rows = rows_with(2)
            rows.contain(0, "a")
            rows.flow(0, 1, without)
            rows.same(0, 1)
            rows.flow(1, 0, without)
            rows.contain(1, "b")
            self.assertEqual(rows.least(), [("a", "b"), ("a", "b")])

    def test_same_is_passed_on(self):
        rows = rows_with(4)
        rows.same(0, 1)
        rows.same(2, 3)
        rows.same(1, 2)
        rows.contain(3, "a")
        self.assertEqual(rows.least(), [("a",)] * 4)

    def test_against_adding_one_by_one(self):
        chance = random.Random(11)
        names = ["a", "b", "c", "d"]
        for _ in range(400):
            many = chance.randrange(1, 7)
            rows, conditions = rows_with(many), []
            for _ in range(chance.randrange(1, 15)):
                one, other = chance.randrange(many), chance.randrange(many)
                kind = chance.choice(["contain", "flow", "flow", "same"])
                if kind == "contain":
                    conditions.append((kind, one, chance.choice(names)))
                elif kind == "flow":
                    left_out = chance.sample(names, chance.randrange(4))
                    conditions.append((kind, one, other, left_out))
                elif chance.randrange(2):
                    conditions.append((kind, one, other))
            for kind, *condition in conditions:
                getattr(rows, kind)(*condition)
            self.assertEqual(rows.least(), least_by_adding(many, conditions), conditions)


class LeastAgainTest(unittest.TestCase):
    def test_asked_for_several_times(self):
        rows = rows_with(2)
        rows.contain(0, "a")
        rows.flow(0, 1, [])
        self.assertEqual(rows.least(), rows.least())
        self.assertEqual(rows.least(), [("a",), ("a",)])

    def test_conditions_stay_and_more_may_be_added(self):
        rows = rows_with(3)
        rows.flow(0, 1, ["b"])
        self.assertEqual(rows.least(), [(), (), ()])
        rows.contain(0, "a")
        self.assertEqual(rows.least(), [("a",), ("a",), ()])
        rows.same(1, 2)
        self.assertEqual(rows.least(), [("a",), ("a",), ("a",)])
        rows.contain(0, "b")
        rows.contain(2, "c")
        self.assertEqual(rows.least(), [("a", "b"), ("a", "c"), ("a", "c")])
        rows.flow(2, 0, ["a"])
        self.assertEqual(rows.least(), [("a", "b", "c"), ("a", "c"), ("a", "c")])

    def test_new_variables_behind_least(self):
        rows = rows_with(1)
        rows.contain(0, "a")
        self.assertEqual(rows.least(), [("a",)])
        self.assertEqual(rows.fresh(), 1)
        self.assertEqual(rows.least(), [("a",), ()])
        rows.flow(0, 1, [])
        self.assertEqual(rows.fresh(), 2)
        rows.same(1, 2)
        self.assertEqual(rows.least(), [("a",), ("a",), ("a",)])

    def test_the_list_of_least_belongs_to_the_caller(self):
        rows = rows_with(2)
        rows.contain(0, "a")
        found = rows.least()
        found[0] = ("b",)
        found.append(("c",))
        self.assertEqual(rows.least(), [("a",), ()])
        rows.least().clear()
        self.assertEqual(rows.fresh(), 2)
        self.assertEqual(rows.least(), [("a",), (), ()])

    def test_the_list_without_belongs_to_the_caller(self):
        rows = rows_with(3)
        rows.contain(0, "a")
        rows.contain(0, "b")
        without = ["a"]
        rows.flow(0, 1, without)
        self.assertEqual(without, ["a"])
        without.append("b")
        self.assertEqual(rows.least(), [("a", "b"), ("b",), ()])
        without.clear()
        rows.flow(0, 2, without)
        self.assertEqual(rows.least(), [("a", "b"), ("b",), ("a", "b")])
        self.assertEqual(without, [])


if __name__ == "__main__":
    unittest.main()

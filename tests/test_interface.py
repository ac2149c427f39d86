"""Every name of the interface is there, with the arguments as they stand."""

import inspect
import unittest
from importlib import import_module

FUNCTIONS = {
    "fractions": [
        "fraction(top, bottom)", "plus(one, other)", "minus(one, other)", "product(one, other)", "quotient(one, other)",
        "is_less(one, other)", "size_of(one)", "total_of(some)", "greatest_of(some)", "least_of(some)",
    ],
    "marks": ["marks_of(some)", "misses_of(marks, row)"],
    "measures": ["measured(kind, marks, row)", "is_fair(kind, marks, row, pulls)"],
    "bents": ["height_at(numbers, x)", "row_of(numbers, marks)", "bent_through(marks)", "is_even(marks, pulls, bend)"],
    "tables": ["solved(table, right)"],
    "bending": ["bend_least(kind, marks, bend)", "bend_shown(kind, marks, numbers, pulls)"],
    "balance": ["level_sum(marks)", "line_sum(marks)"],
    "rising": [
        "rises(row)", "holds_up(row, pulls)", "rise_least(kind, marks)", "rise_shown(kind, marks, row, pulls)",
    ],
    "stretches": ["stretch_cost(kind, marks, first, last)", "joined(kind, one, other)"],
    "steps": [
        "steps_of(row)", "is_low(kind, marks, table)", "step_least(kind, marks, k)",
        "step_shown(kind, marks, k, row, table)",
    ],
    "texts": [
        "read_fraction(text)", "read_mark(text)", "read_marks(text)", "show_fraction(x)", "show_mark(mark)",
        "show_marks(some)",
    ],
}


class InterfaceTest(unittest.TestCase):
    def test_functions(self):
        for name, wanted in FUNCTIONS.items():
            module = import_module("leastmiss." + name)
            for one in wanted:
                with self.subTest(module=name, function=one):
                    found = getattr(module, one.split("(")[0])
                    self.assertEqual(found.__name__ + str(inspect.signature(found)), one)

    def test_desk(self):
        desk = import_module("leastmiss.desk").Desk
        self.assertTrue(inspect.isclass(desk))
        self.assertEqual(str(inspect.signature(desk)), "()")
        self.assertEqual(str(inspect.signature(desk().say)), "(row)")


if __name__ == "__main__":
    unittest.main()

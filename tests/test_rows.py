"""Rows and lots: values, edges, refusals, texts, and the facts of point 4."""

import math

from spanalike.errors import BadNumber, BadRow, BadText, Misfit, NoBeat, Twice
from spanalike.rows import Row
from spanalike.strips import Strip
from tests.tools import (NO_INTEGERS, NO_LISTS, NO_ROWS, NO_TEXTS, Case, all_marks, product, some_rows, stretched,
                         turned, units)

LONG = 10 ** 3999 + 7


class TestMaking(Case):
    def test_attributes(self):
        row = Row([3, 0, -1, 0])
        self.just([row.numbers, row.many, row.total, row.is_lot, row.marks], [(3, 0, -1, 0), 4, 2, False, (0, 2)])
        lot = Row((0, 1, 1))
        self.just([lot.numbers, lot.many, lot.total, lot.is_lot, lot.marks], [(0, 1, 1), 3, 2, True, (1, 2)])
        self.just([Row([0, 0]).is_lot, Row([0, 0]).marks, Row([1, 1]).is_lot], [True, (), True])
        self.just([Row([2, 0]).is_lot, Row([-1, 0]).is_lot], [False, False])

    def test_two_and_twenty_four_beats(self):
        for many in (2, 24):
            self.just([Row([0] * many).many, len(Row([1] * many))], [many, many])
        for many in (0, 1, 25, 100):
            self.refused(BadRow, ("numbers",), Row, [0] * many)

    def test_refused(self):
        for value in NO_LISTS:
            self.refused(BadRow, ("numbers",), Row, value)
        for value in NO_INTEGERS:
            self.refused(BadRow, ("numbers",), Row, [0, value])
            self.refused(BadRow, ("numbers",), Row, (value, 0, 1))

    def test_what_is_passed_is_copied(self):
        numbers = [1, 2]
        row = Row(numbers=numbers)
        numbers[0] = 9
        self.just(row.numbers, (1, 2))

    def test_equality(self):
        self.assertTrue(Row([1, 2]) == Row((1, 2)))
        self.assertFalse(Row([1, 2]) != Row((1, 2)))
        for other in (Row([1, 2, 0]), Row([2, 1]), (1, 2), [1, 2], Strip([1, 2]), None, 5):
            self.assertFalse(Row([1, 2]) == other)
            self.assertTrue(Row([1, 2]) != other)

    def test_listed_methods_stand_in_the_class(self):
        for name in ("at", "turned", "mirrored", "stretched", "left_out", "times", "added", "product", "one_mark",
                     "of", "read", "__len__", "__eq__", "__str__"):
            self.assertIn(name, vars(Row))


class TestForms(Case):
    def test_at(self):
        row = Row([5, 6, 7])
        self.just([row.at(beat) for beat in range(-4, 5)], [7, 5, 6, 7, 5, 6, 7, 5, 6])
        self.just(row.at(beat=3 * LONG + 1), 6)

    def test_forms(self):
        for row in some_rows():
            for by in (-row.many - 1, -1, 0, 1, row.many, 3 * LONG):
                self.just(row.turned(by).numbers, turned(row.numbers, by))
            self.just(row.mirrored().numbers, tuple(row.numbers[-beat] for beat in range(row.many)))
            for by in units(row.many):
                self.just(row.stretched(by).numbers, stretched(row.numbers, by))
            self.just(row.left_out().numbers, tuple(1 - number for number in row.numbers))
            self.just(row.times(-3).numbers, tuple(-3 * number for number in row.numbers))
            self.just(row.times(0).numbers, (0,) * row.many)

    def test_sums_and_products(self):
        for row in some_rows():
            for other in (Row([1] + [0] * (row.many - 1)), Row(range_list(row.many)), row):
                wanted = tuple(one + its for one, its in zip(row.numbers, other.numbers))
                self.just(row.added(other).numbers, wanted)
                self.just(row.product(other).numbers, product(row.numbers, other.numbers))

    def test_long_numbers(self):
        row = Row([LONG, -LONG, 3])
        self.just(row.product(row).numbers, product(row.numbers, row.numbers))
        self.just([row.times(LONG).total, row.added(row).numbers[0]], [3 * LONG, 2 * LONG])

    def test_numbers_refused(self):
        row = Row([1, 2, 0])
        for value in NO_INTEGERS:
            self.refused(BadNumber, ("beat",), row.at, value)
            self.refused(BadNumber, ("by",), row.turned, value)
            self.refused(BadNumber, ("by",), row.stretched, value)
            self.refused(BadNumber, ("number",), row.times, value)

    def test_stretches_refused(self):
        for many in range(2, 25):
            row = Row([1] + [0] * (many - 1))
            for by in range(-2, many + 3):
                if not 1 <= by < many or math.gcd(by, many) != 1:
                    self.refused(BadNumber, ("by",), row.stretched, by)
            self.refused(BadNumber, ("by",), row.stretched, many + 1)

    def test_rows_refused(self):
        row = Row([1, 2, 0])
        for value in NO_ROWS + (Strip([1, 2, 1]),):
            self.refused(BadRow, ("other",), row.added, value)
            self.refused(BadRow, ("other",), row.product, value)
        self.refused(Misfit, ("beats",), row.added, Row([1, 2]))
        self.refused(Misfit, ("beats",), row.product, Row([1, 2, 0, 0]))

    def test_nothing_changes(self):
        row = Row([1, 2, 0])
        for form in (row.turned(1), row.mirrored(), row.times(2), row.added(row), row.product(row), row.left_out()):
            self.assertIsInstance(form, Row)
        self.just([row.numbers, row.total, row.marks], [(1, 2, 0), 3, (0, 1)])


def range_list(many):
    return [beat * beat - 3 for beat in range(many)]


class TestStatic(Case):
    def test_one_mark(self):
        for many in range(2, 25):
            self.just(Row.one_mark(many).numbers, (1,) + (0,) * (many - 1))
        for value in NO_INTEGERS + (1, 0, -2, 25, LONG):
            self.refused(BadNumber, ("many",), Row.one_mark, value)

    def test_of(self):
        for marks in all_marks(5):
            self.just(Row.of(5, marks[::-1]).marks, marks)
            self.just(Row.of(many=5, marks=list(marks)).numbers, tuple(int(beat in marks) for beat in range(5)))
        self.just([Row.of(24, []).total, Row.of(2, [1, 0]).total], [0, 2])

    def test_of_refused(self):
        for value in NO_INTEGERS + (1, 25, -3):
            self.refused(BadNumber, ("many",), Row.of, value, None)
        for value in NO_LISTS:
            self.refused(BadRow, ("marks",), Row.of, 8, value)
        for value in NO_INTEGERS + (-1, 8, LONG):
            self.refused(NoBeat, (value,), Row.of, 8, [0, value])
        self.refused(NoBeat, (8,), Row.of, 8, [0, 0, 8, -1])
        self.refused(Twice, (3,), Row.of, 8, [1, 3, 2, 3, 1])

    def test_the_value_that_is_refused_is_kept(self):
        value = [0]
        self.refused(NoBeat, (value,), Row.of, 8, [1, value])


class TestTexts(Case):
    def test_texts(self):
        for row in some_rows():
            self.assertEqual(str(row), " ".join(str(number) for number in row.numbers))
            self.assertTrue(Row.read(str(row)) == row)
        most = "9" * 60
        self.just(Row.read(most + " -" + most).numbers, (int(most), -int(most)))
        self.just(Row.read(text=" ".join(["0"] * 24)).many, 24)

    def test_texts_of_long_numbers(self):
        row = Row([LONG, -LONG, 10 ** 60, -(10 ** 60), 10 ** 60 - 1])
        wanted = "1" + "0" * 3998 + "7"
        self.assertEqual(str(row), f"{wanted} -{wanted} 1{'0' * 60} -1{'0' * 60} {'9' * 60}")
        self.assertEqual(str(Row([10 ** 3500, 0]).product(Row([10 ** 3500, 0]))), "1" + "0" * 7000 + " 0")

    def test_what_is_no_text(self):
        for value in NO_TEXTS:
            self.refused(BadText, (0, 0), Row.read, value)

    def test_bent_at_an_item(self):
        bad = ("", "+1", "01", "-0", "-01", "00", "1.0", "x", "-", "--1", "1_0", "\u0661", "1\n", "\t1", "1" * 61,
               "-" + "1" * 61, "0x1", "1e1", ",")
        for item in bad:
            for index in range(4):
                items = ["1", "0", "-1", "2"]
                items[index] = item
                self.refused(BadText, (0, index), Row.read, " ".join(items))
                items[3] = "bad"
                self.refused(BadText, (0, index), Row.read, " ".join(items))

    def test_blanks(self):
        self.refused(BadText, (0, 1), Row.read, "1  0")
        self.refused(BadText, (0, 0), Row.read, " 1 0")
        self.refused(BadText, (0, 2), Row.read, "1 0 ")
        self.refused(BadText, (0, 0), Row.read, " ")

    def test_too_few_and_too_many(self):
        self.refused(BadText, (0, 0), Row.read, "")
        self.refused(BadText, (0, 1), Row.read, "1")
        self.refused(BadText, (0, 24), Row.read, " ".join(["1"] * 25))
        self.refused(BadText, (0, 24), Row.read, " ".join(["1"] * 24 + ["x"]))
        self.refused(BadText, (0, 24), Row.read, " ".join(["1"] * 24 + [""]))
        self.refused(BadText, (0, 23), Row.read, " ".join(["1"] * 23 + ["x", "x"]))
        self.refused(BadText, (0, 24), Row.read, " ".join(["1"] * 10000))


class TestFacts(Case):
    def test_products(self):
        for row in some_rows():
            one, other = Row.one_mark(row.many), Row(range_list(row.many))
            self.assertTrue(row.product(other) == other.product(row))
            self.assertTrue(row.product(one) == row)
            for turn in range(-2, row.many + 2):
                self.assertTrue(row.product(one.turned(turn)) == row.turned(turn))
            self.assertEqual(row.product(other).total, row.total * other.total)

    def test_products_of_forms(self):
        for row in some_rows():
            other = Row(range_list(row.many))
            both = row.product(other)
            self.assertTrue(row.mirrored() == row.stretched(row.many - 1))
            self.assertTrue(row.mirrored().product(other.mirrored()) == both.mirrored())
            for by in units(row.many):
                self.assertTrue(row.stretched(by).product(other.stretched(by)) == both.stretched(by))
            for one in (0, 1, 4):
                self.assertTrue(row.turned(one).product(other.turned(2)) == both.turned(one + 2))

    def test_turned_and_stretched(self):
        for row in some_rows():
            for by in units(row.many):
                for turn in (-1, 0, 1, 3, row.many):
                    self.assertTrue(row.turned(turn).stretched(by) == row.stretched(by).turned(by * turn))

"""Spans, counts of distances, what is folded, and the facts of point 6 about them."""

import itertools

from spanalike.errors import BadNumber, BadRow, Misfit
from spanalike.folded import folded, folded_spans
from spanalike.rows import Row
from spanalike.shares import loud_at
from spanalike.spans import coming, cross_spans, distances, distances_left_out, not_coming, spans
from tests.tools import (NO_INTEGERS, NO_LISTS, NO_ROWS, Case, all_lots, counts_of, cross, divisors, is_square,
                         product, some_rows, units)

LONG = 10 ** 3999 + 3


class TestSpans(Case):
    def test_spans(self):
        for row in some_rows():
            self.just(spans(row), cross(row.numbers, row.numbers))
            other = Row([3, -1] + [2] * (row.many - 2))
            self.just(cross_spans(row, other), cross(row.numbers, other.numbers))
            self.just(cross_spans(one=other, other=row), cross(other.numbers, row.numbers))

    def test_long_numbers(self):
        row = Row([LONG, -LONG, 1, LONG] * 6)
        self.just(spans(row), cross(row.numbers, row.numbers))

    def test_counts(self):
        for many in range(2, 9):
            for lot in all_lots(many):
                wanted = counts_of(many, lot.marks)
                self.just(distances(lot), wanted)
                self.just(coming(lot), tuple(d for d in range(1, many // 2 + 1) if wanted[d - 1] > 0))
                self.just(not_coming(lot), tuple(d for d in range(1, many // 2 + 1) if wanted[d - 1] == 0))
        self.just(distances(Row([1] * 24)), (24,) * 11 + (12,))

    def test_refused(self):
        row = Row([1, 0, 2])
        for value in NO_ROWS:
            self.refused(BadRow, ("row",), spans, value)
            self.refused(BadRow, ("one",), cross_spans, value, value)
            self.refused(BadRow, ("other",), cross_spans, row, value)
        self.refused(Misfit, ("beats",), cross_spans, row, Row([1, 0]))
        for function in (distances, coming, not_coming):
            for value in NO_ROWS + (row, Row([-1, 0])):
                self.refused(BadRow, ("lot",), function, value)


class TestLeftOut(Case):
    def test_by_lots(self):
        for many in range(2, 9):
            for lot in all_lots(many):
                self.just(distances_left_out(many, lot.total, distances(lot)), counts_of(many, lot.left_out().marks))

    def test_any_counts(self):
        self.just(distances_left_out(many=4, size=4, counts=[0, 1]), (-4, -1))
        self.just(distances_left_out(5, 0, (7, 0)), (12, 5))
        self.just(distances_left_out(3, 2, [LONG]), (LONG - 1,))

    def test_refused(self):
        for value in NO_INTEGERS + (1, 25):
            self.refused(BadNumber, ("many",), distances_left_out, value, 99, None)
        for value in NO_INTEGERS + (-1, 9):
            self.refused(BadNumber, ("size",), distances_left_out, 8, value, None)
        for value in NO_LISTS + ([], [1, 1, 1], [1, 1, 1, 1, 1]):
            self.refused(BadNumber, ("counts",), distances_left_out, 8, 3, value)
        for value in NO_INTEGERS + (-1,):
            self.refused(BadNumber, ("counts",), distances_left_out, 8, 3, [1, 1, value, 0])


class TestFolded(Case):
    def test_folded(self):
        for count in (1, 2, 5, 12, 41):
            numbers = [index * index % 11 - 4 for index in range(count)]
            for many in range(2, 25):
                wanted = [0] * many
                for index, number in enumerate(numbers):
                    wanted[index % many] += number
                self.just(folded(numbers, many).numbers, tuple(wanted))

    def test_folded_spans_are_the_spans_of_what_is_folded(self):
        for count in (1, 2, 3, 7, 41):
            numbers = [index * 7 % 5 - 2 for index in range(count)]
            told = [sum(numbers[i] * numbers[i + d] for i in range(count - d)) for d in range(count)]
            for many in range(2, 25):
                row = folded(numbers, many)
                self.just(folded_spans(told, many), cross(row.numbers, row.numbers))
        for numbers in itertools.product((-1, 0, 2), repeat=4):
            told = [sum(numbers[i] * numbers[i + d] for i in range(4 - d)) for d in range(4)]
            for many in (2, 3, 4, 7, 8):
                self.just(folded_spans(tuple(told), many), spans(folded(numbers, many)))

    def test_long_numbers(self):
        self.just(folded([LONG, 1, LONG], 2).numbers, (2 * LONG, 1))
        self.just(folded_spans(told=[LONG, 1, LONG], many=2), (3 * LONG, 2))

    def test_refused(self):
        for function, part in ((folded, "numbers"), (folded_spans, "told")):
            for value in NO_LISTS + ([], (), [0] * 42):
                self.refused(BadNumber, (part,), function, value, None)
            for value in NO_INTEGERS:
                self.refused(BadNumber, (part,), function, [1, value], 5)
            for value in NO_INTEGERS + (1, 25, -4):
                self.refused(BadNumber, ("many",), function, [0], value)
            function([0] * 41, 2)


class TestFacts(Case):
    def test_spans_run_alike_from_both_sides(self):
        for row in some_rows():
            found = spans(row)
            self.assertEqual(found[1:], found[:0:-1])
            self.assertEqual(sum(found), row.total ** 2)
            other = Row([3, -1] + [2] * (row.many - 2))
            here, there = cross_spans(row, other), cross_spans(other, row)
            self.assertEqual(list(there), [here[-d] for d in range(row.many)])

    def test_spans_as_products(self):
        for row in some_rows():
            other = Row([3, -1] + [2] * (row.many - 2))
            self.assertEqual(cross_spans(row, other), row.mirrored().product(other).numbers)
            self.assertEqual(spans(row.turned(3)), spans(row))
            self.assertEqual(spans(row.mirrored()), spans(row))
            for by in units(row.many):
                its = spans(row.stretched(by))
                self.assertEqual([its[by * d % row.many] for d in range(row.many)], list(spans(row)))
            self.assertEqual(spans(row.product(other)), product(spans(row), spans(other)))

    def test_what_is_left_out(self):
        for row in some_rows():
            more = row.many - 2 * row.total
            self.assertEqual(list(spans(row.left_out())), [span + more for span in spans(row)])
        for many in range(2, 8):
            for one, other in itertools.product(all_lots(many), repeat=2):
                if 2 * one.total == many:
                    self.assertEqual(distances(one), distances(one.left_out()))
                self.assertEqual(spans(one) == spans(other), spans(one.left_out()) == spans(other.left_out()))

    def test_sums_and_squares(self):
        for many in range(2, 9):
            for lot in all_lots(many):
                self.assertEqual(sum(distances(lot)), lot.total * (lot.total - 1) // 2)
        for row in some_rows():
            numbers = {divisor: loud_at(row, divisor) for divisor in divisors(row.many)}
            self.assertTrue(all(number >= 0 for number in numbers.values()))
            if 2 in numbers:
                self.assertEqual(numbers[2], (sum(row.numbers[::2]) - sum(row.numbers[1::2])) ** 2)
            if 4 in numbers:
                self.assertEqual(numbers[4] % 2, 0)
                half = numbers[4] // 2
                self.assertTrue(any(is_square(half - m * m) for m in range(half + 1)))
            for divisor in (3, 6):
                if divisor in numbers:
                    self.assertEqual(numbers[divisor] % 2, 0)
                    half, most = numbers[divisor] // 2, 40
                    found = {m * m + m * n + n * n for m in range(-most, most) for n in range(-most, most)}
                    self.assertIn(half, found)

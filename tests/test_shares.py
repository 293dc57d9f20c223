"""Shares, silent divisors, quotients, and the facts of point 7."""

import itertools
from fractions import Fraction
from math import gcd

from spanalike.check_alike import shows_quotient
from spanalike.errors import BadNumber, BadRow, Misfit, NoDivisor
from spanalike.papers import Denial, Paper
from spanalike.quotients import NoQuotient, Quotient, quotient
from spanalike.rows import Row
from spanalike.shares import loud_at, share, share_row, silent_divisors
from spanalike.spans import spans
from tests.tools import (NO_INTEGERS, NO_ROWS, Case, all_lots, all_rows, divisors, is_silent, product, share_numbers,
                         some_rows, units)

LONG = 10 ** 3999 + 9


class TestShares(Case):
    def test_share_rows(self):
        for many in range(2, 25):
            for divisor in divisors(many):
                self.just(share_row(many, divisor).numbers, share_numbers(many, divisor))

    def test_shares(self):
        for row in some_rows():
            for divisor in divisors(row.many):
                shares = share_numbers(row.many, divisor)
                self.just(share(row, divisor).numbers, product(row.numbers, shares))
                self.just(loud_at(row, divisor), sum(a * b for a, b in zip(spans(row), shares)))
            wanted = tuple(divisor for divisor in divisors(row.many) if is_silent(row.numbers, divisor))
            self.just(silent_divisors(row=row), wanted)

    def test_long_numbers(self):
        row = Row([LONG, -LONG, 1, LONG])
        self.just(share(row=row, divisor=2).numbers, product(row.numbers, (1, -1, 1, -1)))
        self.just(silent_divisors(Row([LONG, -LONG] * 12)), (1, 3, 4, 6, 8, 12, 24))
        self.just(loud_at(row=row, divisor=1), row.total ** 2)

    def test_refused(self):
        for value in NO_INTEGERS + (1, 25):
            self.refused(BadNumber, ("many",), share_row, value, 0)
        row = Row([1, 0, 0, 2, 0, 0])
        for value in NO_INTEGERS + (0, -1, 4, 5, 12, LONG):
            self.refused(NoDivisor, (value,), share_row, 6, value)
            self.refused(NoDivisor, (value,), share, row, value)
            self.refused(NoDivisor, (value,), loud_at, row, value)
        for value in NO_ROWS:
            self.refused(BadRow, ("row",), share, value, 0)
            self.refused(BadRow, ("row",), loud_at, value, 0)
            self.refused(BadRow, ("row",), silent_divisors, value)


def fractions_of(whole, part):
    """The quotient by plain elimination, with the rows that ask silence; None if there is none."""
    many = len(whole)
    table = [[Fraction(part[(i - j) % many]) for j in range(many)] + [Fraction(whole[i])] for i in range(many)]
    for divisor in divisors(many):
        if is_silent(part, divisor):
            shares = share_numbers(many, divisor)
            table += [[Fraction(shares[(i - j) % many]) for j in range(many)] + [Fraction(0)] for i in range(many)]
    for column in range(many):
        pivot = next(row for row in range(column, len(table)) if table[row][column] != 0)
        table[column], table[pivot] = table[pivot], table[column]
        table[column] = [number / table[column][column] for number in table[column]]
        for row in range(len(table)):
            if row != column and table[row][column] != 0:
                times = table[row][column]
                table[row] = [a - times * b for a, b in zip(table[row], table[column])]
    if any(row[-1] != 0 for row in table[many:]):
        return None
    return [row[-1] for row in table[:many]]


def parts_of(fractions):
    by = 1
    for fraction in fractions:
        by = by * fraction.denominator // gcd(by, fraction.denominator)
    return (tuple(int(fraction * by) for fraction in fractions), by)


class TestQuotients(Case):
    def pairs(self):
        yield from itertools.product(all_rows(2, (-1, 0, 1, 2)), repeat=2)
        yield from itertools.product(all_rows(3, (-1, 0, 2)), repeat=2)
        yield from itertools.product(all_lots(4), repeat=2)
        rows = [row for row in some_rows() if row.many in (6, 8, 12)]
        for one in rows[::9] + rows[-5:]:
            for other in rows:
                if one.many == other.many:
                    yield one, other

    def test_quotients(self):
        for whole, part in self.pairs():
            found = quotient(whole, part)
            silent = [d for d in divisors(part.many) if is_silent(part.numbers, d) and not is_silent(whole.numbers, d)]
            if silent:
                self.assertIs(type(found), NoQuotient)
                self.just(found.parts, (silent[0],))
                self.assertIsNone(fractions_of(whole.numbers, part.numbers))
            else:
                self.assertIs(type(found), Quotient)
                self.just(found.parts, parts_of(fractions_of(whole.numbers, part.numbers)))
            self.assertIs(shows_quotient(whole, part, found), True)
            for divisor in divisors(part.many):
                self.assertIs(shows_quotient(whole, part, NoQuotient(divisor)), divisor in silent)

    def test_nothing_by_nothing(self):
        self.just(quotient(Row([0, 0, 0]), Row([0, 0, 0])).parts, ((0, 0, 0), 1))
        self.just(quotient(whole=Row([0, 0]), part=Row([5, 1])).parts, ((0, 0), 1))
        self.just(quotient(Row([1, 0]), Row([0, 0])).parts, (1,))

    def test_long_numbers(self):
        for many in (2, 3, 8, 12):
            part = Row([LONG + beat * beat for beat in range(many)])
            whole = part.product(Row([1, -2] + [3] * (many - 2)))
            self.just(quotient(whole, part).parts, (tuple([1, -2] + [3] * (many - 2)), 1))
            other = Row([LONG - 5 * beat for beat in range(many)])
            self.assertIs(shows_quotient(other, part, quotient(other, part)), True)

    def test_other_right_quotients(self):
        pair, heard = Row.of(6, [0, 3]), Row([1, 0, 0, 0, 0, 0])
        self.assertIs(shows_quotient(pair, pair, Quotient(heard.numbers, 1)), True)
        self.assertIs(shows_quotient(pair, pair, Quotient([0, 0, 0, 1, 0, 0], 1)), True)
        self.assertIs(shows_quotient(pair, pair, Quotient([2, 0, 0, -1, 0, 0], 1)), True)
        self.assertFalse(quotient(pair, pair) == Quotient(heard.numbers, 1))

    def test_bent_papers(self):
        whole, part = Row([2, 1, 3]), Row([1, 2, 0])
        self.assertIs(shows_quotient(whole, part, Quotient([0, 1, 1], 1)), True)
        for value in (Quotient([0, 2, 2], 2), Quotient([0, True, 1], 1), Quotient([0, 1, 1], True), Quotient([0, 1], 1),
                      Quotient([0, -1, -1], -1), Quotient([0, 0, 0], 0), Quotient([0, 1, 1, 0], 1), Quotient(None, 1),
                      Quotient([0, 1, 1], None), Quotient([0, 1, 1.0], 1), Quotient("011", 1), Quotient([1, 0, 1], 1),
                      Quotient(Row([0, 1, 1]), 1), Paper("quotient", (0, 1, 1), 1), NoQuotient(1), NoQuotient(3),
                      None, True, ((0, 1, 1), 1), 1, "quotient", object()):
            self.assertIs(shows_quotient(whole, part, value), False)
        self.assertIs(shows_quotient(Row([1, 0]), Row([1, -1]), NoQuotient(1)), True)
        for value in (NoQuotient(True), NoQuotient(2), NoQuotient(0), NoQuotient("1"), NoQuotient([1]), NoQuotient(1.0),
                      NoQuotient(None), Denial("noquotient", 1), Quotient([1, 1], 1)):
            self.assertIs(shows_quotient(Row([1, 0]), Row([1, -1]), value), False)

    def test_refused(self):
        row = Row([1, 0, 2])
        for function in (quotient, lambda whole, part: shows_quotient(whole, part, None)):
            for value in NO_ROWS:
                self.refused(BadRow, ("whole",), function, value, value)
                self.refused(BadRow, ("part",), function, row, value)
            self.refused(Misfit, ("beats",), function, row, Row([1, 0]))


class TestFacts(Case):
    def test_share_rows(self):
        for many in range(2, 25):
            total = Row([0] * many)
            for one in divisors(many):
                total = total.added(share_row(many, one))
                for other in divisors(many):
                    times = many if one == other else 0
                    wanted = share_row(many, one).times(times)
                    self.assertTrue(share_row(many, one).product(share_row(many, other)) == wanted)
            self.assertTrue(total == Row.one_mark(many).times(many))

    def test_shares_of_rows(self):
        for row in some_rows():
            other = Row([3, -1] + [2] * (row.many - 2))
            total = Row([0] * row.many)
            for divisor in divisors(row.many):
                total = total.added(share(row, divisor))
                self.assertTrue(share(row.product(other), divisor) == row.product(share(other, divisor)))
                self.assertEqual(loud_at(row, divisor) == 0, divisor in silent_divisors(row))
            self.assertTrue(total == row.times(row.many))
            both = set(silent_divisors(row)) | set(silent_divisors(other))
            self.assertEqual(silent_divisors(row.product(other)), tuple(sorted(both)))

    def test_silent_forms(self):
        for row in some_rows():
            silent = silent_divisors(row)
            self.assertEqual(1 in silent, row.total == 0)
            forms = [row.turned(1), row.mirrored()] + [row.stretched(by) for by in units(row.many)]
            for form in forms:
                self.assertEqual(silent_divisors(form), silent)
            if row.many in (2, 3, 5, 7):
                self.assertEqual(row.many in silent, len(set(row.numbers)) == 1)

    def test_lots_of_prime_rings(self):
        for many in (2, 3, 5, 7):
            for lot in all_lots(many)[1:-1]:
                self.assertEqual(silent_divisors(lot), ())

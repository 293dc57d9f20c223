"""Classes: leasts, keeping turns, how rows come of one another, and the facts of point 5."""

import itertools
import math

from spanalike.classes import (least_broad, least_of, least_wide, same_broad, same_class, same_wide,
                               stretches_keeping, turns_keeping)
from spanalike.errors import BadRow, Misfit
from spanalike.numbered import many_classes, many_wide
from spanalike.rows import Row
from tests.tools import NO_ROWS, Case, all_lots, rank, some_rows, stretched, turned, units


def class_of(numbers):
    return [turned(numbers, turn) for turn in range(len(numbers))]


def wide_of(numbers):
    return class_of(numbers) + class_of(stretched(numbers, len(numbers) - 1))


def broad_of(numbers):
    return [form for by in units(len(numbers)) for form in class_of(stretched(numbers, by))]


class TestOne(Case):
    def test_turns_keeping(self):
        for row in some_rows():
            wanted = tuple(turn for turn in range(row.many) if turned(row.numbers, turn) == row.numbers)
            self.just(turns_keeping(row), wanted)

    def test_stretches_keeping(self):
        for row in some_rows():
            wanted = tuple(
                (by, turn) for by in units(row.many) for turn in range(row.many)
                if turned(stretched(row.numbers, by), turn) == row.numbers
            )
            self.just(stretches_keeping(row), wanted)

    def test_leasts(self):
        for row in some_rows():
            for function, forms in ((least_of, class_of), (least_wide, wide_of), (least_broad, broad_of)):
                found = function(row=row)
                self.assertIsInstance(found, Row)
                self.assertEqual(found.numbers, min(forms(row.numbers), key=rank))

    def test_lots_are_compared_by_their_marks(self):
        self.just(least_of(Row([0, 1, 0, 0])).numbers, (1, 0, 0, 0))
        self.just(least_of(Row([0, 2, 0, 0])).numbers, (0, 0, 0, 2))

    def test_refused(self):
        for function in (turns_keeping, stretches_keeping, least_of, least_wide, least_broad):
            for value in NO_ROWS:
                self.refused(BadRow, ("row",), function, value)


class TestTwo(Case):
    def pairs(self):
        rows = some_rows()
        for row in rows:
            for other in (row, row.turned(2), row.mirrored().turned(1), row.left_out()):
                yield row, other
            for by in units(row.many):
                yield row, row.stretched(by).turned(by)
        for one, other in itertools.product(all_lots(4), all_lots(4)):
            yield one, other

    def test_same(self):
        for one, other in self.pairs():
            many = one.many
            turns = [turn for turn in range(many) if turned(one.numbers, turn) == other.numbers]
            backward = stretched(one.numbers, many - 1)
            wide = [(False, turn) for turn in turns]
            wide += [(True, turn) for turn in range(many) if turned(backward, turn) == other.numbers]
            broad = [
                (by, turn) for by in units(many) for turn in range(many)
                if turned(stretched(one.numbers, by), turn) == other.numbers
            ]
            self.just(same_class(one, other), turns[0] if turns else None)
            self.just(same_wide(one, other), wide[0] if wide else None)
            self.just(same_broad(one=one, other=other), broad[0] if broad else None)

    def test_refused(self):
        row = Row([1, 0, 2])
        for function in (same_class, same_wide, same_broad):
            for value in NO_ROWS:
                self.refused(BadRow, ("one",), function, value, row)
                self.refused(BadRow, ("other",), function, row, value)
                self.refused(BadRow, ("one",), function, value, value)
            self.refused(Misfit, ("beats",), function, row, Row([1, 0]))


class TestFacts(Case):
    def test_each_row_is_in_one_class_of_each_kind(self):
        for many in range(2, 7):
            for row in all_lots(many) + [Row(list(range(many)))]:
                for form in class_of(row.numbers):
                    self.assertTrue(least_of(Row(form)) == least_of(row))
                for form in wide_of(row.numbers):
                    self.assertTrue(least_wide(Row(form)) == least_wide(row))
                    self.assertTrue(least_broad(Row(form)) == least_broad(row))
                for form in broad_of(row.numbers):
                    self.assertTrue(least_broad(Row(form)) == least_broad(row))
                self.assertIn(len({least_of(Row(form)).numbers for form in wide_of(row.numbers)}), (1, 2))

    def test_turns_keeping_are_the_multiples_of_a_divisor(self):
        for row in some_rows():
            turns = turns_keeping(row)
            divisor = turns[1] if len(turns) > 1 else row.many
            self.assertEqual(row.many % divisor, 0)
            self.assertEqual(turns, tuple(range(0, row.many, divisor)))
            self.assertEqual(len(set(class_of(row.numbers))), divisor)

    def test_the_least_lot_marks_beat_0(self):
        for many in range(2, 8):
            for lot in all_lots(many)[1:]:
                self.assertEqual(least_of(lot).marks[0], 0)

    def test_how_many_classes(self):
        for many in range(2, 9):
            for size in range(many + 1):
                turns = mirrors = 0
                for marks in itertools.combinations(range(many), size):
                    for turn in range(many):
                        turns += {(beat + turn) % many for beat in marks} == set(marks)
                        mirrors += {(turn - beat) % many for beat in marks} == set(marks)
                self.assertEqual(many_classes(many, size) * many, turns)
                self.assertEqual(many_wide(many, size) * 2 * many, turns + mirrors)
                kept = 0
                for turn in range(many):
                    c = many // math.gcd(many, turn)
                    kept += math.comb(many // c, size // c) if size % c == 0 else 0
                self.assertEqual(kept, turns)

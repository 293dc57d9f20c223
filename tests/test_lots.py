"""All lots of a size, halves, and the numbers of classes."""

import itertools

from spanalike.classes import least_of
from spanalike.errors import BadNumber, BadRow, TooMany
from spanalike.lots import is_half, lots_of
from spanalike.numbered import class_at, many_classes, many_wide, number_of
from spanalike.rows import Row
from tests.tools import NO_INTEGERS, NO_ROWS, Case, all_lots

LONG = 10 ** 3999


class TestLots(Case):
    def test_lots_of(self):
        for many in range(2, 10):
            for size in range(many + 1):
                wanted = list(itertools.combinations(range(many), size))
                found = lots_of(many, size)
                self.assertIsInstance(found, tuple)
                self.assertEqual([lot.marks for lot in found], wanted)
                self.assertTrue(all(isinstance(lot, Row) and lot.is_lot and lot.many == many for lot in found))

    def test_fourteen_beats_and_fifteen(self):
        self.assertEqual(len(lots_of(many=14, size=7)), 3432)
        for many in (15, 24):
            self.refused(TooMany, ("beats", 14), lots_of, many, 0)

    def test_refused(self):
        for function in (lots_of, many_classes, many_wide):
            for value in NO_INTEGERS + (1, 0, -1, 25, LONG):
                self.refused(BadNumber, ("many",), function, value, 99)
            for value in NO_INTEGERS + (-1, 7, LONG):
                self.refused(BadNumber, ("size",), function, 6, value)
            self.refused(BadNumber, ("size",), function, 20, 21)

    def test_halves(self):
        for many in range(2, 8):
            for lot in all_lots(many):
                self.assertIs(is_half(lot), 2 * len(lot.marks) == many)
        for value in NO_ROWS + (Row([2, 0]), Row([-1, 1])):
            self.refused(BadRow, ("lot",), is_half, value)
        self.assertIs(is_half(lot=Row([1, 0])), True)


def orbits(many, size, mirrored):
    """The sets of the marks of classes, by plain turning."""
    found = set()
    for marks in itertools.combinations(range(many), size):
        signs = (1, -1) if mirrored else (1,)
        found.add(frozenset(
            tuple(sorted((sign * beat + turn) % many for beat in marks)) for turn in range(many) for sign in signs
        ))
    return found


class TestNumbered(Case):
    def test_how_many(self):
        for many in range(2, 10):
            for size in range(many + 1):
                self.just(many_classes(many, size), len(orbits(many, size, False)))
                self.just(many_wide(many, size), len(orbits(many, size, True)))

    def test_how_many_of_great_rings(self):
        self.just([many_classes(24, 12), many_wide(24, 12), many_classes(24, 0)], [112720, 56822, 1])
        self.just([many_classes(many=23, size=1), many_wide(many=23, size=23)], [1, 1])

    def test_classes_in_their_order(self):
        for many in range(2, 9):
            for size in range(many + 1):
                leasts = sorted(min(orbit) for orbit in orbits(many, size, False))
                found = [class_at(many, size, number) for number in range(many_classes(many, size))]
                self.assertEqual([lot.marks for lot in found], leasts)
                for number, lot in enumerate(found):
                    for turn in range(many):
                        self.just(number_of(lot.turned(turn)), number)

    def test_fourteen_beats(self):
        self.assertEqual(class_at(14, 7, 0).marks, (0, 1, 2, 3, 4, 5, 6))
        self.assertEqual(class_at(14, 7, many_classes(14, 7) - 1).marks, (0, 2, 4, 6, 8, 10, 12))
        self.just(number_of(Row.of(14, [1, 3, 5, 7, 9, 11, 13])), many_classes(14, 7) - 1)
        self.just([number_of(Row.of(14, [])), number_of(lot=Row([1] * 14))], [0, 0])

    def test_class_at_refused(self):
        for value in NO_INTEGERS + (1, 25):
            self.refused(BadNumber, ("many",), class_at, value, 9, -1)
        for value in NO_INTEGERS + (-1, 7):
            self.refused(BadNumber, ("size",), class_at, 6, value, -1)
        for value in NO_INTEGERS + (-1, 4, LONG):
            self.refused(BadNumber, ("number",), class_at, 6, 3, value)
        self.refused(BadNumber, ("number",), class_at, 15, 1, 1)
        self.refused(TooMany, ("beats", 14), class_at, 15, 1, 0)

    def test_number_of_refused(self):
        for value in NO_ROWS + (Row([2, 0]), Row([2] * 15)):
            self.refused(BadRow, ("lot",), number_of, value)
        self.refused(TooMany, ("beats", 14), number_of, Row.of(15, [0]))

    def test_least_lots_of_other_beats(self):
        for number in range(many_classes(12, 4)):
            lot = class_at(many=12, size=4, number=number)
            self.assertTrue(least_of(lot) == lot)

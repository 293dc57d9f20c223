"""Flat lots, nearly flat lots, thin lots: values, edges, refusals, and the facts of point 13."""

import itertools

from spanalike.alike import alike
from spanalike.classes import least_wide
from spanalike.errors import BadNumber, BadRow, Impossible, TooMany
from spanalike.flat_lots import NoFlat, flat_lots, nearly_flat_lots, no_flat
from spanalike.flats import Bent, Flat, flat_word, hall_turns
from spanalike.rows import Row
from spanalike.spans import distances, spans
from spanalike.thin import MostThin, is_thin, most_thin, twice_come
from tests.tools import LONG, NO_INTEGERS, NO_LOTS, Case, all_lots, cross, is_square, stretched, turned, units

FLATS = ((7, 3), (7, 4), (11, 5), (11, 6), (13, 4), (13, 9), (15, 7), (15, 8), (19, 9), (19, 10), (21, 5), (21, 16))


def least_of_wide(many, marks):
    """The least tuple of marks of a wide class."""
    return min(
        tuple(sorted((sign * mark + turn) % many for mark in marks)) for turn in range(many) for sign in (1, -1)
    )


def plain_spans(lot):
    return cross(lot.numbers, lot.numbers)[1:]


def is_flat(lot):
    return len(set(plain_spans(lot))) == 1


def some_flat_lots():
    """Flat lots: of the sizes that all rings have, and all least ones of the others, turned and mirrored."""
    found = []
    for many in (2, 3, 4, 7, 12, 24):
        ring = Row([1] * many)
        found += [Row([0] * many), ring, Row.of(many, [many - 1]), Row.of(many, [1]).left_out()]
    for many, size in FLATS:
        for lot in flat_lots(many, size):
            found += [lot, lot.turned(3), lot.mirrored()]
    return found


class TestFlats(Case):
    def test_flat_word(self):
        for many in range(2, 9):
            for lot in all_lots(many):
                told = plain_spans(lot)
                found = flat_word(lot=lot)
                if is_flat(lot):
                    self.assertIs(type(found), Flat)
                    self.just(found.number, told[0])
                else:
                    pairs = [
                        (one, other) for one, other in itertools.combinations(range(1, many // 2 + 1), 2)
                        if told[one - 1] != told[other - 1]
                    ]
                    self.assertIs(type(found), Bent)
                    self.just(found.parts, min(pairs))
        for lot in some_flat_lots():
            self.just(flat_word(lot).number, plain_spans(lot)[0])

    def test_hall_turns(self):
        for lot in some_flat_lots():
            many, number = lot.many, plain_spans(lot)[0]
            left = lot.total - number
            wanted = []
            for prime in (2, 3, 5, 7, 11, 13, 17, 19, 23):
                if left > 0 and left % prime == 0 and prime > number and many % prime:
                    form = stretched(lot.numbers, prime % many)
                    wanted.append((prime, [turn for turn in range(many) if turned(lot.numbers, turn) == form][0]))
            self.just(hall_turns(lot=lot), tuple(wanted))
        self.assertTrue(any(hall_turns(lot) for lot in some_flat_lots()))

    def test_hall_turns_of_bent_lots(self):
        for lot in all_lots(7)[::3] + all_lots(8)[::5]:
            if not is_flat(lot):
                with self.assertRaises(Impossible) as caught:
                    hall_turns(lot)
                self.assertTrue(caught.exception.paper == flat_word(lot))
                self.assertIs(type(caught.exception.paper), Bent)

    def test_refused(self):
        for function in (flat_word, hall_turns, is_thin, twice_come):
            for value in NO_LOTS:
                self.refused(BadRow, ("lot",), function, value)


class TestFlatLots(Case):
    def test_flat_lots(self):
        for many in range(2, 12):
            for size in range(many + 1):
                marks = itertools.combinations(range(many), size)
                wanted = sorted({least_of_wide(many, told) for told in marks if is_flat(Row.of(many, told))})
                found = flat_lots(many=many, size=size)
                self.just([lot.marks for lot in found], wanted)
                self.assertIsInstance(found, tuple)
                self.assertIs(no_flat(many, size) is None, wanted != [])

    def test_all_sizes_to_22_beats(self):
        for many in range(2, 23):
            for size in range(many + 1):
                if size in (0, 1, many - 1, many):
                    self.just([lot.marks for lot in flat_lots(many, size)], [tuple(range(size))])
                else:
                    self.assertEqual(len(flat_lots(many, size)) > 0, (many, size) in FLATS)
                for lot in flat_lots(many, size):
                    self.assertTrue(is_flat(lot))
                    self.assertEqual((lot.many, lot.total), (many, size))
                    self.assertTrue(least_wide(lot) == lot)

    def test_no_flat(self):
        for many in range(2, 23):
            for size in range(many + 1):
                found = no_flat(many=many, size=size)
                if (many, size) in FLATS or size in (0, 1, many - 1, many):
                    self.assertIs(found, None)
                    continue
                number, left = divmod(size * (size - 1), many - 1)
                reason = "listed"
                if left:
                    reason = "count"
                elif many % 2 == 0 and not is_square(size - number):
                    reason = "square"
                self.assertIs(type(found), NoFlat)
                self.just(found.reason, reason)
        self.just([no_flat(22, 7).reason, no_flat(22, 15).reason], ["square", "square"])
        self.just([no_flat(16, 6).reason, no_flat(16, 10).reason, no_flat(8, 3).reason], ["listed", "listed", "count"])

    def test_nearly_flat_lots(self):
        for many in range(2, 10):
            for size in range(many + 1):
                wanted = set()
                for told in itertools.combinations(range(many), size):
                    found = plain_spans(Row.of(many, told))
                    if max(found) - min(found) <= 1:
                        wanted.add(least_of_wide(many, told))
                found = nearly_flat_lots(many=many, size=size)
                self.just([lot.marks for lot in found], sorted(wanted))
                self.assertIsInstance(found, tuple)
        self.assertTrue(all(max(plain_spans(lot)) - min(plain_spans(lot)) <= 1 for lot in nearly_flat_lots(14, 7)))
        self.assertIn(flat_lots(13, 4)[0], nearly_flat_lots(13, 4))

    def test_refused(self):
        for function, most in ((flat_lots, 22), (no_flat, 22), (nearly_flat_lots, 14)):
            for value in NO_INTEGERS + (1, 0, -5):
                self.refused(BadNumber, ("many",), function, value, None)
            for value in NO_INTEGERS + (-1, most + 2, LONG):
                self.refused(BadNumber, ("size",), function, most + 1, value)
            for many in (most + 1, 24, 25, LONG):
                self.refused(TooMany, ("beats", most), function, many, 3)
                self.refused(TooMany, ("beats", most), function, many, many)
            self.just(function(most, 1) is None or len(function(most, 1)) == 1, True)


class TestThin(Case):
    def test_thin(self):
        for many in range(2, 10):
            for lot in all_lots(many):
                twice = tuple(index + 1 for index, count in enumerate(distances(lot)) if count > 1)
                self.just(twice_come(lot=lot), twice)
                self.assertIs(is_thin(lot=lot), twice == ())
        self.assertIs(is_thin(Row.of(24, [0, 12])), True)
        self.just(twice_come(Row([1] * 24)), tuple(range(1, 13)))

    def test_most_thin(self):
        for many in range(2, 14):
            for size in range(many, 0, -1):
                thin = [marks for marks in itertools.combinations(range(many), size) if is_thin(Row.of(many, marks))]
                if thin:
                    break
            found = most_thin(many=many)
            self.assertIs(type(found), MostThin)
            self.just(found.lot.marks, thin[0])
            more = (size + 1) * size
            self.just(found.reason, "count" if more > (many if many % 2 == 0 else many - 1) else "listed")

    def test_to_24_beats(self):
        for many in range(14, 25):
            found = most_thin(many)
            size = found.lot.total
            self.assertTrue(is_thin(found.lot))
            self.assertEqual(found.lot.many, many)
            bound = max(k for k in range(1, 9) if k * (k - 1) <= (many if many % 2 == 0 else many - 1))
            self.just(found.reason, "count" if size == bound else "listed")
            # none with a mark more, and none ahead of it: those ahead begin with 0, too
            for more in range(size + 1, bound + 1):
                self.assertFalse(any(self.thin_ones(many, more)))
            self.assertEqual(next(self.thin_ones(many, size)), found.lot.marks)

    def thin_ones(self, many, size):
        for behind in itertools.combinations(range(1, many), size - 1):
            marks = (0,) + behind
            told = [min(b - a, many - b + a) for a, b in itertools.combinations(marks, 2)]
            if len(set(told)) == len(told):
                yield marks

    def test_refused(self):
        for value in NO_INTEGERS + (1, 0, -5):
            self.refused(BadNumber, ("many",), most_thin, value)
        for many in (25, 999999, LONG):
            self.refused(TooMany, ("beats", 24), most_thin, many)


class TestFacts(Case):
    def test_sums(self):
        for many in range(2, 9):
            for lot in all_lots(many):
                self.assertEqual(sum(spans(lot)[1:]), lot.total * (lot.total - 1))

    def test_forms(self):
        for many in (6, 7, 8):
            for lot in all_lots(many)[::3]:
                told = plain_spans(lot)
                nearly = max(told) - min(told) <= 1
                left = plain_spans(lot.left_out())
                self.assertEqual(max(left) - min(left) <= 1, nearly)
                for form in [lot.turned(1), lot.mirrored()] + [lot.stretched(by) for by in units(many)]:
                    its = plain_spans(form)
                    self.assertEqual(max(its) - min(its) <= 1, nearly)
                    self.assertEqual(is_thin(form), is_thin(lot))
                    self.assertEqual(flat_word(form).word, flat_word(lot).word)

    def test_flat_lots(self):
        for lot in some_flat_lots():
            many, size, number = lot.many, lot.total, flat_word(lot).number
            self.assertEqual(size * (size - 1), number * (many - 1))
            self.assertEqual(flat_word(lot.left_out()).number, many - 2 * size + number)
            if many % 2 == 0:
                even = len([mark for mark in lot.marks if mark % 2 == 0])
                self.assertEqual(size - number, (2 * even - size) ** 2)
            if number == 1:
                self.assertTrue(is_thin(lot) or many % 2 == 0)
                less = Row.of(many, lot.marks[1:])
                told = plain_spans(less)
                self.assertLessEqual(max(told) - min(told), 1)
        for many, size in ((13, 4), (13, 9)):
            one, other = flat_lots(many, size)
            self.assertTrue(alike(one, other))

    def test_thin_lots(self):
        for many in range(2, 10):
            for lot in all_lots(many):
                if is_thin(lot) and lot.total:
                    bound = many if many % 2 == 0 else many - 1
                    self.assertLessEqual(lot.total * (lot.total - 1), bound)
                    self.assertTrue(is_thin(Row.of(many, lot.marks[1:])))

"""Even lots, steps, deep lots, papers on them: values, edges, refusals, and the facts of point 14."""

import itertools
from math import gcd
from unittest.mock import ANY

from spanalike.check_evens import shows_deep, shows_even
from spanalike.deep import Deep, Equals, deep_lots, deep_word
from spanalike.errors import BadNumber, BadRow, TooMany, Twice
from spanalike.evens import Even, Uneven, distance_sum, even_lot, even_word
from spanalike.families import alike_lots
from spanalike.papers import Denial, Paper
from spanalike.rows import Row
from spanalike.spans import spans
from spanalike.steps import made, makers, step_lengths, steps, uneven_steps
from tests.tools import LONG, NO_INTEGERS, NO_LOTS, NO_MARKED, Case, all_lots, all_marks, counts_of

RINGS = range(2, 10)


def marked_lots(many):
    return [lot for lot in all_lots(many) if lot.marks]


def even_marks(many, size):
    return tuple(i * many // size for i in range(size))


def turned_marks(many, marks, by):
    return tuple(sorted((mark + by) % many for mark in marks))


def plain_sum(many, marks):
    pairs = itertools.combinations(marks, 2)
    short = [min(other - one, many - other + one) for one, other in pairs]
    return sum(distance * (many - distance) for distance in short)


def plain_lengths(many, marks, number):
    """How many beats so many steps go from each mark, walking beat by beat."""
    found = []
    for mark in marks:
        beats, left = 0, number
        while left:
            beats += 1
            left -= (mark + beats) % many in marks
        found.append(beats)
    return found


def is_even(many, marks):
    return any(turned_marks(many, even_marks(many, len(marks)), by) == marks for by in range(many))


def is_made_by(many, marks, step):
    for start in range(many):
        beats = [(start + i * step) % many for i in range(len(marks))]
        if len(set(beats)) == len(beats) and tuple(sorted(beats)) == marks:
            return True
    return False


def is_deep(many, marks):
    counts = counts_of(many, marks)
    return len(set(counts)) == len(counts)


class TestEvens(Case):
    def test_even_lot(self):
        for many in range(2, 25):
            for size in range(1, many + 1):
                self.just(even_lot(many=many, size=size).marks, even_marks(many, size))
                self.assertEqual(even_lot(many, size).many, many)

    def test_distance_sum(self):
        for many in RINGS:
            for lot in marked_lots(many):
                self.just(distance_sum(lot=lot), plain_sum(many, lot.marks))
        self.just(distance_sum(Row.of(24, [7])), 0)
        self.just(distance_sum(Row.of(2, [0, 1])), 1)
        self.just(distance_sum(Row([1] * 24)), plain_sum(24, range(24)))

    def test_even_word(self):
        for many in RINGS:
            for lot in marked_lots(many):
                even = even_marks(many, lot.total)
                turns = [by for by in range(many) if turned_marks(many, even, by) == lot.marks]
                found = even_word(lot=lot)
                if turns:
                    self.assertIs(type(found), Even)
                    self.just(found.parts, (turns[0],))
                else:
                    self.assertIs(type(found), Uneven)
                    self.just(found.parts, (plain_sum(many, lot.marks), plain_sum(many, even)))
                self.assertTrue(found == even_word(Row(lot.numbers)))
        self.just(even_word(even_lot(24, 7).turned(23)).turn, 23)
        self.just(even_word(Row([1] * 24)).turn, 0)

    def test_refused(self):
        for value in NO_INTEGERS + (1, 25, 0, -3, LONG):
            self.refused(BadNumber, ("many",), even_lot, value, None)
        for value in NO_INTEGERS + (0, -1, 9, LONG):
            self.refused(BadNumber, ("size",), even_lot, 8, value)
        for function in (distance_sum, even_word, steps, uneven_steps, makers, lambda lot: step_lengths(lot, None),
                         lambda lot: shows_even(lot, None), lambda lot: shows_even(lot, Even(0)),
                         lambda lot: shows_even(lot, Uneven(1, 2))):
            for value in NO_MARKED:
                self.refused(BadRow, ("lot",), function, value)


class TestSteps(Case):
    def test_lengths(self):
        for many in RINGS:
            for lot in marked_lots(many):
                self.just(steps(lot=lot), tuple(plain_lengths(many, lot.marks, 1)))
                apart = []
                for number in range(1, lot.total + 1):
                    told = plain_lengths(many, lot.marks, number)
                    self.just(step_lengths(lot=lot, number=number), tuple(sorted(set(told))))
                    if max(told) - min(told) > 1:
                        apart.append(number)
                self.just(uneven_steps(lot=lot), apart[0] if apart else None)

    def test_edges(self):
        self.just(steps(Row.of(24, [9])), (24,))
        self.just(step_lengths(Row.of(24, [9]), 1), (24,))
        self.just(step_lengths(Row([1] * 24), 24), (24,))
        self.just(steps(Row([1] * 2)), (1, 1))
        self.just(uneven_steps(Row.of(2, [1])), None)

    def test_made(self):
        for many in range(2, 13):
            for step in range(1, many):
                for size in range(1, many + 1):
                    beats = [i * step % many for i in range(size)]
                    again = [beat for i, beat in enumerate(beats) if beat in beats[:i]]
                    if again:
                        self.refused(Twice, (again[0],), made, many, step, size)
                    else:
                        self.just(made(many=many, step=step, size=size).marks, tuple(sorted(beats)))
        self.just(made(24, 23, 24).total, 24)

    def test_makers(self):
        for many in RINGS:
            for lot in marked_lots(many):
                wanted = tuple(step for step in range(1, many) if is_made_by(many, lot.marks, step))
                self.just(makers(lot=lot), wanted)
        self.just(makers(Row.of(24, [3])), tuple(range(1, 24)))
        self.just(makers(Row([1] * 24)), (1, 5, 7, 11, 13, 17, 19, 23))
        self.just(makers(Row.of(2, [1])), (1,))

    def test_refused(self):
        for value in NO_INTEGERS + (0, -1, 4, LONG):
            self.refused(BadNumber, ("number",), step_lengths, Row.of(8, [0, 1, 3]), value)
        for value in NO_INTEGERS + (1, 25, LONG):
            self.refused(BadNumber, ("many",), made, value, None, None)
        for value in NO_INTEGERS + (0, 8, -1, LONG):
            self.refused(BadNumber, ("step",), made, 8, value, None)
        for value in NO_INTEGERS + (0, 9, -1, LONG):
            self.refused(BadNumber, ("size",), made, 8, 4, value)
        self.refused(Twice, (0,), made, 12, 4, 4)
        self.refused(Twice, (0,), made, 12, 6, 12)


class TestDeep(Case):
    def test_deep_word(self):
        for many in RINGS:
            for lot in all_lots(many):
                counts = counts_of(many, lot.marks)
                pairs = itertools.combinations(range(1, many // 2 + 1), 2)
                equal = [(one, other) for one, other in pairs if counts[one - 1] == counts[other - 1]]
                found = deep_word(lot=lot)
                if equal:
                    self.assertIs(type(found), Equals)
                    self.just(found.parts, min(equal))
                else:
                    self.assertIs(type(found), Deep)
                    order = sorted(range(1, many // 2 + 1), key=lambda distance: -counts[distance - 1])
                    self.just(found.order, tuple(order))
        self.just(deep_word(Row([0, 0])).order, (1,))
        self.just(deep_word(Row([0] * 24)).parts, (1, 2))

    def test_deep_lots(self):
        for many in range(2, 11):
            leasts = set()
            for marks in all_marks(many):
                if is_deep(many, marks):
                    forms = [tuple(sorted((sign * mark + by) % many for mark in marks))
                             for by in range(many) for sign in (1, -1)]
                    leasts.add(min(forms))
            found = deep_lots(many=many)
            self.just(tuple(lot.marks for lot in found), tuple(sorted(leasts)))
            self.assertIsInstance(found, tuple)
            self.assertTrue(all(lot.many == many for lot in found))

    def test_edges(self):
        self.just([lot.marks for lot in deep_lots(2)], [(), (0,), (0, 1)])
        self.just([lot.marks for lot in deep_lots(3)], [(), (0,), (0, 1), (0, 1, 2)])
        self.just([lot.marks for lot in deep_lots(14) if not is_deep(14, lot.marks)], [])
        self.assertIn(made(14, 3, 7).marks, [form.marks for lot in deep_lots(14) for form in wide_forms(lot)])

    def test_refused(self):
        for value in NO_LOTS:
            self.refused(BadRow, ("lot",), deep_word, value)
            for paper in (None, Deep((1,)), Equals(1, 2)):
                self.refused(BadRow, ("lot",), shows_deep, value, paper)
        for value in NO_INTEGERS + (1, 0, -5):
            self.refused(BadNumber, ("many",), deep_lots, value)
        for many in (15, 24, 25, LONG):
            self.refused(TooMany, ("beats", 14), deep_lots, many)


def wide_forms(lot):
    return [form.turned(by) for form in (lot, lot.mirrored()) for by in range(lot.many)]


NO_PAPERS = (None, True, False, 1, 0, "even", "deep", (1,), [1], (1, 2), object(), ANY, Even, Deep, Paper("even", 1),
             Paper("deep", (1,)), Denial("uneven", 34, 42), Denial("equals", 1, 3))


class TestShowsEven(Case):
    def test_turns(self):
        for many in range(2, 9):
            for lot in marked_lots(many):
                even = even_marks(many, lot.total)
                for by in range(-1, many + 2):
                    right = 0 <= by < many and turned_marks(many, even, by) == lot.marks
                    self.assertIs(shows_even(lot, Even(by)), right)
                mine, best = plain_sum(many, lot.marks), plain_sum(many, even)
                self.assertIs(shows_even(lot, Uneven(mine, best)), not is_even(many, lot.marks))
                self.assertIs(shows_even(lot=lot, value=even_word(lot)), True)
                for told in ((mine, best + 1), (mine - 1, best), (best, mine)):
                    if told != (mine, best):
                        self.assertIs(shows_even(lot, Uneven(*told)), False)

    def test_bent(self):
        even, uneven = Row.of(8, [1, 3, 5, 7]), Row.of(8, [0, 1, 3])
        for value in NO_PAPERS + (Even(True), Even(1.0), Even("1"), Even(None), Even(ANY), Even((1,)), Even(9),
                                  Even(LONG), Even(0), Uneven(80, 80), Deep((1, 2, 3, 4))):
            self.assertIs(shows_even(even, value), False)
        for value in NO_PAPERS + (Uneven(34.0, 42), Uneven(34, 42.0), Uneven(34, ANY), Uneven(ANY, 42),
                                  Uneven("34", 42), Uneven((34,), (42,)), Uneven(34, None), Uneven(LONG, 42), Even(0)):
            self.assertIs(shows_even(uneven, value), False)
        self.assertIs(shows_even(uneven, Uneven(34, 42)), True)
        one = Row.of(2, [1])
        self.assertIs(shows_even(one, Even(1)), True)
        self.assertIs(shows_even(one, Even(True)), False)


class TestShowsDeep(Case):
    def test_all_values(self):
        for many in range(2, 8):
            half = many // 2
            orders = list(itertools.permutations(range(1, half + 1)))
            for lot in all_lots(many):
                counts = counts_of(many, lot.marks)
                for order in orders:
                    told = [counts[distance - 1] for distance in order]
                    right = all(one > other for one, other in zip(told, told[1:]))
                    self.assertIs(shows_deep(lot, Deep(order)), right)
                for one, other in itertools.product(range(-1, half + 2), repeat=2):
                    right = 1 <= one < other <= half and counts[one - 1] == counts[other - 1]
                    self.assertIs(shows_deep(lot, Equals(one, other)), right)
                self.assertIs(shows_deep(lot=lot, value=deep_word(lot)), True)

    def test_bent(self):
        deep, equal = Row.of(6, [0, 1, 2]), Row.of(8, [0, 1, 3, 4])
        self.assertIs(shows_deep(deep, Deep([1, 2, 3])), True)
        for value in NO_PAPERS + (Deep((True, 2, 3)), Deep((1.0, 2, 3)), Deep((1, 2)), Deep((1, 2, 3, 4)), Deep(ANY),
                                  Deep((1, 2, ANY)), Deep(None), Deep("123"), Deep({1: 1}), Deep(()), Deep(123),
                                  Deep((1, 3, 2)), Equals(1, 2), Deep(((1, 2, 3),))):
            self.assertIs(shows_deep(deep, value), False)
        self.assertIs(shows_deep(equal, Equals(2, 4)), True)
        for value in NO_PAPERS + (Equals(4, 2), Equals(2, 4.0), Equals(True, 3), Equals(ANY, 4), Equals(2, ANY),
                                  Equals("2", "4"), Equals(None, None), Equals((2,), (4,)), Equals(2, 2),
                                  Equals(1, LONG),
                                  Equals(-1, 1), Deep((1, 2, 3, 4)), Deep((3, 1, 2, 4)), Even(0)):
            self.assertIs(shows_deep(equal, value), False)


class TestFacts(Case):
    def test_lengths(self):
        for many in range(2, 11):
            for lot in marked_lots(many):
                near = True
                for number in range(1, lot.total + 1):
                    told = plain_lengths(many, lot.marks, number)
                    self.assertEqual(sum(told), number * many)
                    near = near and max(told) - min(told) <= 1
                self.assertEqual(near, bool(even_word(lot)))
                self.assertEqual(uneven_steps(lot) is None, near)

    def test_just_the_even_ones_have_the_greatest_sum(self):
        for many in range(2, 11):
            for size in range(1, many + 1):
                lots = [lot for lot in marked_lots(many) if lot.total == size]
                best = max(distance_sum(lot) for lot in lots)
                for lot in lots:
                    word = even_word(lot)
                    self.assertEqual(bool(word), distance_sum(lot) == best)
                    if not word:
                        self.assertLess(word.total, word.greatest)
                        self.assertEqual(word.greatest, best)

    def test_what_is_alike_left_out_or_mirrored(self):
        for many in range(2, 13):
            for size in range(1, many + 1):
                lot = even_lot(many, size)
                self.assertTrue(even_word(lot.mirrored()))
                if size < many:
                    self.assertTrue(even_word(lot.left_out()))
                if many % size == 0:
                    self.assertEqual(step_lengths(lot, 1), (many // size,))
                self.assertTrue(all(even_word(other) for other in alike_lots(lot).lots))

    def test_makers(self):
        for many in range(2, 11):
            for lot in marked_lots(many):
                found = makers(lot)
                self.assertEqual(found, tuple(sorted(many - step for step in found)))
                for step in found:
                    told = step_lengths(lot, 1)
                    self.assertLessEqual(len(told), 3)
                    if len(told) == 3:
                        self.assertEqual(told[2], told[0] + told[1])
                    if gcd(step, many) == 1 and lot.total in (many // 2, many // 2 + 1):
                        self.assertTrue(deep_word(lot))
        for many in range(2, 25):
            for size in range(1, many + 1):
                if gcd(size, many) == 1:
                    near = [step for step in range(1, many) if step * size % many in (1 % many, many - 1)]
                    self.assertLessEqual(set(near), set(makers(even_lot(many, size))))
        self.assertEqual(makers(Row.of(6, [0, 1, 2, 4])), ())
        self.assertTrue(deep_word(Row.of(6, [0, 1, 2, 4])))

    def test_couples_of_marks_so_many_steps_apart(self):
        for many in range(2, 14):
            for step in range(1, many):
                if gcd(step, many) == 1:
                    for size in (many // 2, many // 2 + 1):
                        lot = made(many, step, size)
                        for i in range(1, many // 2 + 1):
                            beats = i * step % many
                            distance = min(beats, many - beats)
                            count = counts_of(many, lot.marks)[distance - 1]
                            self.assertEqual(count, size - i)

    def test_on_2_or_3_beats_every_lot_is_deep(self):
        for many in (2, 3):
            self.assertTrue(all(deep_word(lot) for lot in all_lots(many)))

    def test_spans_of_even_lots_tell_their_class(self):
        for many in range(2, 11):
            for lot in marked_lots(many):
                if spans(lot) == spans(even_lot(many, lot.total)):
                    self.assertTrue(even_word(lot))

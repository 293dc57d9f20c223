"""Probes, what they hear, what undoes them, papers on them: values, edges, refusals, facts of point 15."""

import itertools
from math import gcd
from unittest.mock import ANY

from spanalike.check_probes import shows_tells, shows_undoing
from spanalike.deaf import deaf_divisors, two_lots
from spanalike.errors import BadNumber, BadRow, Impossible, Misfit, NoDivisor, TooMany
from spanalike.heard_lots import Undoing, heard_from, lots_heard, many_heard, undoing
from spanalike.papers import Denial, Paper
from spanalike.probes import Deaf, TellsAll, fewest_probes, heard, parted_by, tells_all
from spanalike.rows import Row
from tests.tools import (LONG, NO_INTEGERS, NO_LISTS, NO_LOTS, NO_ROWS, Case, all_lots, all_rows, cross, divisors,
                         is_silent, product, stretched, turned, units)

PAIR, ONE = Row.of(4, [0, 1]), Row.one_mark(4)
ZEROS = Row([0] * 4)


def some_probes(many):
    """Single probes of a ring: a few with few numbers, lots, one of 0s."""
    found = [Row([0] * many), Row([1] * many), Row.one_mark(many), Row.of(many, [0, 1]), Row([-2] + [3] * (many - 1))]
    found += [Row([i * i - 3 for i in range(many)]), Row([(-1) ** i for i in range(many)])]
    for divisor in divisors(many):
        found.append(Row([1 if i % divisor == 0 else 0 for i in range(many)]))
    return found


def some_lists(many):
    """Lists of one to eight probes."""
    told = some_probes(many)
    found = [[probe] for probe in told] + [list(pair) for pair in itertools.combinations(told, 2)]
    found += [list(three) for three in itertools.combinations(told, 3)][::3]
    return found + [told[:8], [told[0]] * 8, told[-8:]]


def heard_alike(probes, one, other):
    return all(cross(probe.numbers, one.numbers) == cross(probe.numbers, other.numbers) for probe in probes)


def all_silent(probes, divisor):
    return all(is_silent(probe.numbers, divisor) for probe in probes)


def row_of_divisor(many, divisor):
    """The row of a divisor, as the document builds it."""
    row = tuple(1 if i % divisor == 0 else 0 for i in range(many))
    for prime in range(2, divisor + 1):
        if divisor % prime == 0 and all(prime % less for less in range(2, prime)):
            row = tuple(one - other for one, other in zip(row, turned(row, divisor // prime)))
    return row


class TestDeaf(Case):
    def test_two_lots(self):
        for many in range(2, 25):
            for divisor in divisors(many):
                row = row_of_divisor(many, divisor)
                found = two_lots(many=many, divisor=divisor)
                self.assertIs(type(found), tuple)
                self.just([lot.marks for lot in found], [
                    tuple(i for i in range(many) if row[i] > 0), tuple(i for i in range(many) if row[i] < 0)])
                self.assertTrue(all(lot.is_lot and lot.many == many for lot in found))
        self.just([lot.marks for lot in two_lots(2, 2)], [(0,), (1,)])

    def test_deaf_divisors(self):
        for many in (2, 3, 4, 6, 12):
            for probes in some_lists(many):
                wanted = tuple(divisor for divisor in divisors(many) if all_silent(probes, divisor))
                self.just(deaf_divisors(probes=probes), wanted)
                self.just(deaf_divisors(tuple(probes)), wanted)

    def test_refused(self):
        for value in NO_INTEGERS + (1, 25, 0, LONG):
            self.refused(BadNumber, ("many",), two_lots, value, None)
        for value in NO_INTEGERS + (0, 5, 24, -6, LONG):
            self.refused(NoDivisor, (value,), two_lots, 12, value)


class TestRefused(Case):
    def functions(self):
        return (
            deaf_divisors, tells_all, fewest_probes, lambda probes: parted_by(probes, None, None),
            lambda probes: lots_heard(probes, None), lambda probes: many_heard(probes, None),
            lambda probes: shows_tells(probes, None), lambda probes: shows_tells(probes, TellsAll((0,))),
            lambda probes: shows_tells(probes, Deaf(1, ONE, PAIR)),
        )

    def test_probes(self):
        for function in self.functions():
            for value in NO_LISTS + ([], (), [ONE] * 9, [ONE] * 8 + [5], ONE):
                self.refused(BadRow, ("probes",), function, value)
            for value in NO_ROWS:
                self.refused(BadRow, ("probes",), function, [ONE, Row([0, 1]), value])

    def test_unlike_rings(self):
        for probes in ([ONE, Row([0, 1])], [PAIR, PAIR, Row([0] * 5), PAIR]):
            for function in (deaf_divisors, tells_all, fewest_probes, lambda probes: lots_heard(probes, None),
                             lambda probes: many_heard(probes, None), lambda probes: shows_tells(probes, None)):
                self.refused(Misfit, ("beats",), function, probes)
            self.refused(Misfit, ("beats",), parted_by, probes, ONE, ONE)
            self.refused(Misfit, ("beats",), parted_by, probes, ONE, PAIR)
        self.refused(Misfit, ("beats",), parted_by, [PAIR], Row([0, 1, 0]), PAIR)
        self.refused(Misfit, ("beats",), parted_by, [PAIR], PAIR, Row([0, 1, 0]))
        self.refused(Misfit, ("beats",), parted_by, [PAIR], Row([0, 1, 0]), Row([0, 1, 0]))

    def test_one_and_other(self):
        for value in NO_LOTS:
            self.refused(BadRow, ("one",), parted_by, [PAIR, Row([0, 1])], value, None)
            self.refused(BadRow, ("other",), parted_by, [PAIR, Row([0, 1])], Row([0, 1]), value)

    def test_single_probe(self):
        for value in NO_ROWS:
            self.refused(BadRow, ("probe",), heard, value, None)
            self.refused(BadRow, ("probe",), undoing, value)
            self.refused(BadRow, ("probe",), heard_from, value, None)
            self.refused(BadRow, ("probe",), shows_undoing, value, None)
            self.refused(BadRow, ("probe",), shows_undoing, value, Undoing((1, 0), 1))
        for value in NO_LOTS:
            self.refused(BadRow, ("lot",), heard, PAIR, value)
        self.refused(Misfit, ("beats",), heard, PAIR, Row([0, 1, 0]))

    def test_numbers(self):
        for value in NO_LISTS + ([], [1, 1, 1], [1] * 5):
            self.refused(BadNumber, ("numbers",), heard_from, PAIR, value)
        for value in NO_INTEGERS:
            self.refused(BadNumber, ("numbers",), heard_from, PAIR, [1, 1, value, 1])

    def test_rows(self):
        long = [Row([1] * 13)]
        for function in (lots_heard, many_heard):
            for value in NO_LISTS + ([], [[1, 1, 1, 1]], [[1] * 4] * 3, [[1] * 4, [1] * 3], [[1] * 4, [1] * 5],
                                     [[1] * 4, None], [[1] * 4, "1111"], [[1] * 4, ONE]):
                self.refused(BadNumber, ("rows",), function, [PAIR, ONE], value)
            for value in NO_INTEGERS:
                self.refused(BadNumber, ("rows",), function, [PAIR, ONE], [[1] * 4, [1, 1, value, 1]])
            self.refused(BadNumber, ("rows",), function, long, [[1] * 12])
            self.refused(TooMany, ("beats", 12), function, long, [[1] * 13])
            self.refused(TooMany, ("beats", 12), function, [Row([0] * 24)], ((0,) * 24,))


class TestHeard(Case):
    def test_heard(self):
        for many in range(2, 7):
            for probe in some_probes(many):
                for lot in all_lots(many):
                    self.just(heard(probe=probe, lot=lot), cross(probe.numbers, lot.numbers))
        self.just(heard(Row([LONG] + [0] * 23), Row([1] * 24)), (LONG,) * 24)

    def test_parted_by(self):
        for many in range(2, 6):
            for probes in some_lists(many)[::3]:
                for one, other in itertools.product(all_lots(many)[::2], repeat=2):
                    wanted = None
                    for number, probe in reversed(list(enumerate(probes))):
                        here, there = cross(probe.numbers, one.numbers), cross(probe.numbers, other.numbers)
                        unlike = [beat for beat in range(many) if here[beat] != there[beat]]
                        wanted = (number, unlike[0]) if unlike else wanted
                    self.just(parted_by(probes=probes, one=one, other=other), wanted)

    def test_tells_all(self):
        for many in (2, 3, 4, 5, 6, 8, 12, 24):
            for probes in some_lists(many):
                deaf = [divisor for divisor in divisors(many) if all_silent(probes, divisor)]
                found = tells_all(probes=probes)
                if deaf:
                    self.assertIs(type(found), Deaf)
                    self.just(found.divisor, deaf[0])
                    self.just((found.one.marks, found.other.marks), tuple(lot.marks for lot in two_lots(many, deaf[0])))
                    self.assertTrue(heard_alike(probes, found.one, found.other))
                else:
                    self.assertIs(type(found), TellsAll)
                    ears = [[number for number, probe in enumerate(probes) if not is_silent(probe.numbers, divisor)]
                            for divisor in divisors(many)]
                    self.just(found.numbers, tuple(numbers[0] for numbers in ears))
                self.assertIs(shows_tells(probes, found), True)
                self.assertTrue(found == tells_all(tuple(probes)))

    def test_fewest_probes(self):
        for many in (2, 3, 4, 6, 12):
            for probes in some_lists(many):
                wanted = []
                for count in range(1, len(probes) + 1):
                    for chosen in itertools.combinations(range(len(probes)), count):
                        if not wanted and not any(all_silent([probes[number] for number in chosen], divisor)
                                                  for divisor in divisors(many)):
                            wanted.append(chosen)
                if wanted:
                    self.just(fewest_probes(probes=probes), wanted[0])
                else:
                    with self.assertRaises(Impossible) as caught:
                        fewest_probes(probes)
                    self.assertIs(type(caught.exception.paper), Deaf)
                    self.assertTrue(caught.exception.paper == tells_all(probes))

    def test_fewest_of_eight(self):
        # one probe for each divisor of 12, none hears two of them; two more that hear nothing
        told = [Row(row_of_divisor(12, divisor)) for divisor in divisors(12)]
        self.just(fewest_probes(told + [Row([0] * 12)] * 2), (0, 1, 2, 3, 4, 5))
        self.just(fewest_probes([Row([0] * 12)] + told + [Row.one_mark(12)]), (7,))
        self.just(fewest_probes(told[3:] + told[:3]), (0, 1, 2, 3, 4, 5))
        self.just(fewest_probes([Row.one_mark(12)] * 8), (0,))


class TestUndoing(Case):
    def test_undoing(self):
        for many in (2, 3, 4, 5, 6):
            rows = all_rows(many, (-1, 0, 2))[::7] + some_probes(many)
            for probe in rows:
                deaf = [divisor for divisor in divisors(many) if is_silent(probe.numbers, divisor)]
                if deaf:
                    with self.assertRaises(Impossible) as caught:
                        undoing(probe)
                    self.assertIs(type(caught.exception.paper), Deaf)
                    self.assertTrue(caught.exception.paper == tells_all([probe]))
                    self.assertIs(shows_undoing(probe, Undoing([0] * many, 1)), False)
                    continue
                found = undoing(probe=probe)
                self.assertIs(type(found), Undoing)
                self.assertEqual(len(found.numbers), many)
                self.assertGreaterEqual(found.by, 1)
                self.assertEqual(gcd(found.by, *found.numbers), 1)
                mirrored = stretched(probe.numbers, many - 1) if many > 2 else probe.numbers
                wanted = (found.by,) + (0,) * (many - 1)
                self.just(product(mirrored, found.numbers), wanted)
                self.assertIs(shows_undoing(probe, found), True)
                for lot in all_lots(many)[::3]:
                    told = product(found.numbers, cross(probe.numbers, lot.numbers))
                    self.just(told, tuple(found.by * number for number in lot.numbers))

    def test_long_rings(self):
        for probe in (Row([1, 2] + [0] * 22), Row([3] + [-1] * 22), Row([5] + [1] * 23), Row.one_mark(24).times(-7)):
            found = undoing(probe)
            wanted = (found.by,) + (0,) * (probe.many - 1)
            self.just(product(probe.mirrored().numbers, found.numbers), wanted)

    def test_heard_from(self):
        for many in (2, 3, 4):
            for probe in all_rows(many, (0, 1, 2)) + some_probes(many):
                if any(is_silent(probe.numbers, divisor) for divisor in divisors(many)):
                    with self.assertRaises(Impossible) as caught:
                        heard_from(probe, [0] * many)
                    self.assertTrue(caught.exception.paper == tells_all([probe]))
                    continue
                by_heard = {cross(probe.numbers, lot.numbers): lot for lot in all_lots(many)}
                for numbers in itertools.product(range(-1, 4), repeat=many):
                    found = heard_from(probe=probe, numbers=list(numbers))
                    if numbers in by_heard:
                        self.assertTrue(found == by_heard[numbers])
                    else:
                        self.assertIs(found, None)
        self.just(heard_from(Row([LONG, 1]), (1, LONG)).marks, (1,))

    def test_a_half_or_twice_a_lot_is_none(self):
        two = Row.of(3, [0, 1])
        self.assertIs(heard_from(two, [1, 1, 1]), None)
        self.assertIs(heard_from(two, [2, 0, 2]), None)
        self.just(heard_from(two, [2, 2, 2]).marks, (0, 1, 2))
        self.just(heard_from(two, [0, 0, 0]).marks, ())


class TestLotsHeard(Case):
    def test_all(self):
        for many in (2, 3, 4, 5, 6):
            for probes in some_lists(many)[::5]:
                told = {}
                for lot in sorted(all_lots(many), key=lambda lot: lot.marks):
                    rows = tuple(cross(probe.numbers, lot.numbers) for probe in probes)
                    told.setdefault(rows, []).append(lot)
                for rows, lots in list(told.items())[::4]:
                    self.just(lots_heard(probes=probes, rows=[list(row) for row in rows]), tuple(lots))
                    self.just(many_heard(probes=probes, rows=rows), len(lots))
                bent = [list(row) for row in list(told)[0]]
                bent[-1][-1] += 1
                if tuple(map(tuple, bent)) not in told:
                    self.just(lots_heard(probes, bent), ())
                    self.just(many_heard(probes, bent), 0)

    def test_edges(self):
        none, twelve = Row([0] * 9), Row([0] * 12)
        self.just(many_heard([none], [[0] * 9]), 512)
        self.refused(TooMany, ("lots", 500), lots_heard, [none], [[0] * 9])
        self.just(len(lots_heard([Row([0] * 8)] * 8, [[0] * 8] * 8)), 256)
        self.just(many_heard([twelve] * 8, [[0] * 12] * 8), 4096)
        self.just(many_heard([twelve], [[0] * 11 + [1]]), 0)
        self.just(lots_heard([twelve], [[0] * 11 + [1]]), ())
        # the whole ring hears how many marks there are
        ring = Row([1] * 12)
        self.just(len(lots_heard([ring], [[4] * 12])), 495)
        self.just(many_heard([ring], [[5] * 12]), 792)
        self.refused(TooMany, ("lots", 500), lots_heard, [ring], [[5] * 12])
        self.just([lot.marks for lot in lots_heard([Row([LONG, 0])], [[LONG, 0]])], [(0,)])


NO_PAPERS = (None, True, False, 1, "tellsall", (1,), [1, 0, 0], object(), ANY, TellsAll, Deaf, Undoing,
             Paper("tellsall", (0, 1, 0)), Paper("undoing", (1, 1, -1), 2))


class TestShowsTells(Case):
    def test_numbers(self):
        for many in (2, 3, 4, 6):
            for probes in some_lists(many)[::7]:
                for numbers in itertools.product(range(-1, len(probes) + 1), repeat=len(divisors(many))):
                    right = all(0 <= number < len(probes) and not is_silent(probes[number].numbers, divisor)
                                for number, divisor in zip(numbers, divisors(many)))
                    self.assertIs(shows_tells(probes, TellsAll(list(numbers))), right)
                    if len(probes) > 3:
                        break

    def test_deaf(self):
        for probes in ([PAIR], [PAIR, PAIR], [PAIR, ONE], [ZEROS], [Row([1] * 4), Row([2] * 4)]):
            for divisor in (-1, 0, 1, 2, 3, 4, 8):
                for one, other in itertools.product(all_lots(4), repeat=2):
                    right = divisor in (1, 2, 4) and all_silent(probes, divisor) and one.marks != other.marks
                    right = right and heard_alike(probes, one, other)
                    self.assertIs(shows_tells(probes, Deaf(divisor, one, other)), right)

    def test_bent(self):
        one, other = Row.of(4, [0, 2]), Row.of(4, [1, 3])
        for probes in ([PAIR, ONE], [PAIR]):
            for value in NO_PAPERS + (TellsAll(True), TellsAll((False, 1, 0)), TellsAll((0.0, 1, 0)), TellsAll(ANY),
                                      TellsAll((0, ANY, 0)), TellsAll(None), TellsAll("010"), TellsAll(()),
                                      TellsAll((0, 1)), TellsAll((0, 1, 0, 0)), TellsAll((0, LONG, 0)), Deaf(2, 1, 0),
                                      TellsAll((0, -1, 0)), TellsAll({0: 1})):
                self.assertIs(shows_tells(probes, value), False)
        self.assertIs(shows_tells([PAIR], Deaf(2, one, other)), True)
        for value in (Deaf(True, one, other), Deaf(2.0, one, other), Deaf(ANY, one, other), Deaf("2", one, other),
                      Deaf(None, one, other), Deaf(2, one, one), Deaf(2, ANY, other), Deaf(2, one, ANY),
                      Deaf(2, one.times(2), other.times(2)), Deaf(2, (0, 2), (1, 3)), Deaf(2, None, None),
                      Deaf(2, one.numbers, other.numbers), Deaf(2, Row([1] * 5), Row([0] * 5)), Deaf(4, one, other),
                      Deaf((2,), one, other), Deaf(2, Row([2, -1, 2, -1]), other), Deaf(2, one, Row([2, -1, 2, -1])),
                      Deaf(2, None, other), Deaf(2, one, None), Deaf(2, "one", other), Deaf(2, one, (1, 3)),
                      Deaf(LONG, one, other), Denial("deaf", 2, one, other)):
            self.assertIs(shows_tells([PAIR], value), False)
        # True is no divisor, though the lots are heard alike
        self.assertIs(shows_tells([ZEROS], Deaf(1, one, other)), True)
        self.assertIs(shows_tells([ZEROS], Deaf(True, one, other)), False)


class TestShowsUndoing(Case):
    def test_any_common_divisor(self):
        for probe in (Row.of(3, [0, 1]), Row([2, 1]), Row([1, 2, 0, 0]), Row([-3, 1, 1]), Row.one_mark(24)):
            found = undoing(probe)
            for times in (1, 2, 3, 10, LONG):
                numbers = [number * times for number in found.numbers]
                self.assertIs(shows_undoing(probe=probe, value=Undoing(numbers, found.by * times)), True)
                self.assertIs(shows_undoing(probe, Undoing(numbers, found.by * times + 1)), False)
                self.assertIs(shows_undoing(probe, Undoing([-number for number in numbers], -found.by * times)), False)
                numbers[-1] += 1
                self.assertIs(shows_undoing(probe, Undoing(numbers, found.by * times)), False)

    def test_bent(self):
        two = Row.of(3, [0, 1])
        self.assertIs(shows_undoing(two, Undoing([1, 1, -1], 2)), True)
        for value in NO_PAPERS + (Undoing([True, 1, -1], 2), Undoing([1, 1.0, -1], 2), Undoing([1, 1, -1], True),
                                  Undoing([1, 1, -1], 2.0), Undoing([1, 1, -1], ANY), Undoing([1, 1, ANY], 2),
                                  Undoing(ANY, 2), Undoing([0, 0, 0], 0), Undoing([1, -1, 1], 2), Undoing([1, 1], 2),
                                  Undoing([1, 1, -1, 0], 2), Undoing(None, 2), Undoing("11-1", 2), Undoing([], 1),
                                  Undoing([1, 1, -1], "2"), Undoing([1, 1, -1], None), Undoing(Row([1, 1, -1]), 2),
                                  Undoing([-1, -1, 1], -2), Undoing([1, 1, -1], (2,)), TellsAll([1, 1, -1])):
            self.assertIs(shows_undoing(two, value), False)
        self.assertIs(shows_undoing(Row.one_mark(3), Undoing([True, 0, 0], 1)), False)
        self.assertIs(shows_undoing(Row.one_mark(3), Undoing([1, 0, 0], True)), False)
        self.assertIs(shows_undoing(Row.one_mark(3), Undoing([1, 0, 0], 1)), True)


class TestFacts(Case):
    def test_what_is_heard(self):
        for many in (4, 5, 6):
            for probe in some_probes(many):
                for lot in all_lots(many)[::3]:
                    told = heard(probe, lot)
                    self.assertEqual(told, product(probe.mirrored().numbers, lot.numbers))
                    self.assertEqual(sum(told), probe.total * lot.total)
                    self.assertEqual(heard(probe, lot.left_out()), tuple(probe.total - number for number in told))
                    for by in range(many):
                        self.assertEqual(heard(probe, lot.turned(by)), turned(told, by))
                        self.assertEqual(heard(probe.turned(by), lot), turned(told, -by % many))
                    for by in units(many):
                        self.assertEqual(heard(probe.stretched(by), lot.stretched(by)), stretched(told, by))
                    self.assertEqual(heard(Row.one_mark(many), lot), lot.numbers)
                    self.assertEqual(heard(lot, lot), cross(lot.numbers, lot.numbers))

    def test_probes_hear_alike_what_is_silent_where_they_are_not(self):
        for many in (2, 3, 4, 6):
            for probe in some_probes(many):
                for one, other in itertools.product(all_lots(many)[::2], repeat=2):
                    less = tuple(here - there for here, there in zip(one.numbers, other.numbers))
                    silent = all(is_silent(less, divisor) for divisor in divisors(many)
                                 if not is_silent(probe.numbers, divisor))
                    self.assertEqual(parted_by([probe], one, other) is None, silent)

    def test_rows_of_divisors(self):
        for many in range(2, 25):
            for divisor in divisors(many):
                row = row_of_divisor(many, divisor)
                self.assertLessEqual(set(row), {-1, 0, 1})
                self.assertEqual([d for d in divisors(many) if not is_silent(row, d)], [divisor])

    def test_tell_all_exactly_if_no_two_lots_are_heard_alike(self):
        for many in (2, 3, 4, 5, 6):
            for probes in some_lists(many):
                told = {tuple(cross(probe.numbers, lot.numbers) for probe in probes) for lot in all_lots(many)}
                self.assertEqual(bool(tells_all(probes)), len(told) == 2 ** many)
                if tells_all(probes) and len(probes) < 8:
                    self.assertTrue(tells_all(probes + [Row([0] * many)]))

    def test_on_prime_rings_each_lot_tells_all_by_itself(self):
        for many in (2, 3, 5, 7):
            for lot in all_lots(many):
                self.assertEqual(bool(tells_all([lot])), 0 < lot.total < many)
        for many in (4, 6):
            ring = Row([1] * many)
            for one, other in itertools.product(all_lots(many), repeat=2):
                self.assertEqual(parted_by([ring], one, other) is None, one.total == other.total)

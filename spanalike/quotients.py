"""Quotients: what makes one row of another one."""

from math import gcd, lcm

from spanalike.basics import reduced
from spanalike.checks import divisors_of
from spanalike.papers import Denial, Paper
from spanalike.rows import need_row, need_same_beats, ring_product
from spanalike.shares import is_silent, laid, share_at, share_number


class Quotient(Paper):
    """Integers for the beats, and one above 0: part by the numbers is whole times by."""

    def __init__(self, numbers, by):
        Paper.__init__(self, "quotient", numbers, by)
        self.numbers = self.parts[0]
        self.by = self.parts[1]


class NoQuotient(Denial):
    """A divisor at which part is silent, but whole is not."""

    def __init__(self, divisor):
        Denial.__init__(self, "noquotient", divisor)
        self.divisor = self.parts[0]


def product_of_others(numbers):
    """The product of all stretched forms of some numbers round a ring, but by 1."""
    many = len(numbers)
    forms = []
    for by in range(2, many):
        if gcd(by, many) == 1:
            stretched = [0] * many
            for beat, number in enumerate(numbers):
                stretched[beat * by % many] = number
            forms.append(stretched)
    # long numbers are multiplied fastest if both are about as long: so shorter ones go first
    while len(forms) > 1:
        forms = forms[2:] + [ring_product(forms[0], forms[1])]
    return forms[0] if forms else [1] + [0] * (many - 1)


def share_fraction(whole, part, divisor):
    """The quotient's share at a divisor at which part is not silent: numbers, and what divides them.

    At the divisor, part by all its other stretched forms is an integer, its norm. So whole by
    these others is the quotient times the norm.
    """
    laid_part = laid(part.numbers, divisor)
    others = share_at(product_of_others(laid_part), divisor)
    # the share of an integer has it as often at beat 0 as the share of the one mark has 1
    first = sum([number * others[-beat] for beat, number in enumerate(laid_part)])
    norm = first // share_number(divisor, 0)
    return ring_product(laid(whole.numbers, divisor), others), norm


def quotient(whole, part):
    """The quotient that is silent where part is, or the least divisor that bars it."""
    need_row(whole, "whole")
    need_row(part, "part")
    need_same_beats(whole, part)
    fractions = []
    common = 1
    for divisor in divisors_of(part.many):
        if not is_silent(part, divisor):
            fractions.append(share_fraction(whole, part, divisor))
            common = lcm(common, fractions[-1][1])
        elif not is_silent(whole, divisor):
            return NoQuotient(divisor)
    numbers = [0] * part.many
    for shares, norm in fractions:
        times = common // norm
        for beat in range(part.many):
            numbers[beat] += shares[beat % len(shares)] * times
    numbers, by = reduced(numbers, common * part.many)
    return Quotient(numbers, by)

"""Whether papers on alike strips are right."""

from spanalike.alike_strips import Factors, UnlikeDistance, strip_span
from spanalike.checks import is_integer, is_within
from spanalike.strips import Strip, need_strip


def are_factors(one, other, value):
    """Whether the parts of a Factors, any values, make the one strip and the other."""
    common, rest, sign = value.common, value.rest, value.sign
    if not isinstance(common, Strip) or not isinstance(rest, Strip):
        return False
    if not is_integer(sign) or sign not in (1, -1) or common.length + rest.length != one.length:
        return False
    return common.product(rest) == one and common.product(rest.backward()).times(sign) == other


def shows_alike_strips(one, other, value):
    """Whether a value is a Factors of any such strips, or an UnlikeDistance of any such distance."""
    need_strip(one, "one")
    need_strip(other, "other")
    if type(value) is Factors:
        return are_factors(one, other, value)
    if type(value) is UnlikeDistance:
        distance = value.distance
        return is_within(distance, 0, None) and strip_span(one, distance) != strip_span(other, distance)
    return False

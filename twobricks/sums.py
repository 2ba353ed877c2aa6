"""Sums of two lengths: which numbers are sums, how often each length is taken, and how many sums there are."""

from math import gcd


def common_share(one, other):
    """The pair (divisor, times): the greatest common divisor, which one taken so often leaves modulo the other."""
    divisor, times = one, 1
    rest, rest_times = other, 0
    while rest > 0:
        fits = divisor // rest
        divisor, rest = rest, divisor - fits * rest
        times, rest_times = rest_times, times - fits * rest_times
    return (divisor, times)


def least_share(one, other, whole):
    """How often one is at least taken, from 0 on, so that other divides the whole less that; None if never.

    The whole may be less than what is taken. All other such numbers are this one and multiples of other, divided by
    the greatest common divisor, more.
    """
    divisor, times = common_share(one, other)
    if whole % divisor != 0:
        return None
    return times * (whole // divisor) % (other // divisor)


def floor_sum(many, step, start, divisor):
    """The sum of (start + k * step) // divisor over all k from 0 on and below many.

    Goes on with the points below the line as seen from the other axis, so the numbers shrink as in Euclid's way.
    """
    found = 0
    while many > 0:
        found = found + many * (many - 1) // 2 * (step // divisor) + many * (start // divisor)
        top = many * (step % divisor) + start % divisor
        many, step, start, divisor = top // divisor, divisor, top % divisor, step % divisor
    return found


def count_sums(one, other, most):
    """How many integers from 1 to most are sums of some ones and some others, perhaps of one of both alone."""
    # Each sum is told just once with fewer others than one divided by the greatest common divisor.
    others = min(one // gcd(one, other), most // other + 1)
    rest = most - (others - 1) * other
    # For each number of others there are as many sums as multiples of one fit in, and the others alone; 0 is none.
    return floor_sum(others, other, rest, one) + others - 1


def least_reaching(count, most, number):
    """The least integer from 1 on whose count is above number; the count ascends and is so at most at last."""
    low, high = 0, most
    while low + 1 < high:
        middle = (low + high) // 2
        if count(middle) > number:
            high = middle
        else:
            low = middle
    return high

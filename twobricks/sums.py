"""Sums of two lengths: how many of the one leave a number that the other divides."""


def common_share(one, other):
    """The pair (divisor, times): the greatest common divisor, which one taken so often leaves modulo the other."""
    divisor, times = one, 1
    rest, rest_times = other, 0
    while rest > 0:
        fits = divisor // rest
        divisor, rest = rest, divisor - fits * rest
        times, rest_times = rest_times, times - fits * rest_times
    return (divisor, times)


def least_share(one, other, whole):
    """How often one is at least taken, from 0 on, so that other divides the whole less that; None if never.

    The whole may be less than what is taken. All other such numbers are this one and multiples of other, divided by
    the greatest common divisor, more.
    """
    divisor, times = common_share(one, other)
    if whole % divisor != 0:
        return None
    return times * (whole // divisor) % (other // divisor)

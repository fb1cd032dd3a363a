"""Fractions of whole numbers, as (above, below) with below 1 at least."""


def common_divisor(first, second):
    while second > 0:
        rest = first % second
        first = second
        second = rest
    return first


def lowest_terms(above, below):
    divisor = common_divisor(above, below)
    return (above // divisor, below // divisor)


def sum_of(parts):
    """The sum of fractions, in lowest terms."""
    # Few belows differ, and they are small: one common below spares a long division for each part.
    by_below = {}
    for above, below in parts:
        by_below[below] = by_below.get(below, 0) + above
    whole_below = 1
    for below in by_below:
        whole_below = whole_below // common_divisor(whole_below, below) * below
    whole_above = sum([above * (whole_below // below) for below, above in by_below.items()])
    return lowest_terms(whole_above, whole_below)

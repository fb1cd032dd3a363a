"""Sets of blocks, each kept in its form: pairs (from, up to) in order, none empty, no two that meet or touch."""

BLOCKS = 10000


def all_blocks():
    return [(0, BLOCKS)]


def form_of(pairs):
    """The form of the set that these pairs tell, in whatever order they stand and however they overlap."""
    form = []
    for start, end in sorted(pairs):
        if form and start <= form[-1][1]:
            form[-1] = (form[-1][0], max(form[-1][1], end))
        else:
            form.append((start, end))
    return form


def size_of(pairs):
    return sum([end - start for start, end in pairs])


def overlaps(left, right):
    """Where a member of left and one of right overlap: (from, up to, the left one's index, the right one's).

    The members begin with from and up to; in each list they stand in order and apart.
    """
    found = []
    i = 0
    j = 0
    while i < len(left) and j < len(right):
        start = max(left[i][0], right[j][0])
        end = min(left[i][1], right[j][1])
        if start < end:
            found.append((start, end, i, j))
        if left[i][1] <= right[j][1]:
            i += 1
        else:
            j += 1
    return found


def in_both(left, right):
    return [(start, end) for start, end, i, j in overlaps(left, right)]


def in_either(left, right):
    return form_of(left + right)


def all_but(pairs):
    form = []
    start = 0
    for first, end in pairs:
        if start < first:
            form.append((start, first))
        start = end
    if start < BLOCKS:
        form.append((start, BLOCKS))
    return form


def less(left, right):
    return in_both(left, all_but(right))


def in_one_alone(left, right):
    return in_either(less(left, right), less(right, left))


def long_ones(pairs, least):
    return [(start, end) for start, end in pairs if end - start >= least]

"""judge: what passes is the luminosity; what doesn't, is told by the first of 3, 1, 4, 2."""

import unittest

from tests.support import (
    FAR,
    HouseTest,
    ask,
    defect,
    judge,
    last,
    lift,
    list_of,
    live,
    lumi,
    meter,
    rule,
    scale,
    set_on,
    stretches_in,
    with_row,
)

WHOLE = (0, 10000)
# By 10: rule 0 lets (10, 20) and (30, 40), worth 1 / 2 but (15, 20), worth 3 / 2, and (35, 37), worth 0; 38, 39 lack.
TOLD = [
    defect("a"),
    set_on(0, (10, 20), (30, 40)),
    meter(1, 2, (0, 100)),
    meter(2, 6, (15, 20)),
    meter(2, 0, (35, 37)),
    live(1, 1, 2, (0, 38)),
    scale(0, 1, 2, WHOLE),
    rule("a"),
    rule("not all"),
    rule("all"),
]
RIGHT = [(10, 15, 1, 2), (15, 20, 3, 2), (30, 35, 1, 2), (35, 37, 0, 1), (37, 38, 1, 2)]
# 5 / 2 + 15 / 2 + 5 / 2 + 0 + 1 / 2
SUM = (13, 1)


class JudgeTest(HouseTest):
    def says(self, wanted, stretches, whole=SUM, i=0, k=0, n=10):
        self.assertEqual(wanted, last(*TOLD, judge(i, k, n, *whole, *stretches)), stretches)


class PassingTest(JudgeTest):
    def test_the_list_with_its_sum(self):
        given = ask(*TOLD, list_of(0, 0, 10), lumi(0, 0, 10))
        self.assertEqual(RIGHT, stretches_in(given[-2]))
        self.assertEqual([*SUM, 20, 2], given[-1])
        self.says([0, 0], RIGHT)

    def test_every_list_of_the_house_with_its_sum(self):
        for i in range(3):
            for k in range(2):
                for n in range(11):
                    listed, whole = ask(*TOLD, list_of(i, k, n), lumi(i, k, n))[-2:]
                    with self.subTest(i=i, k=k, n=n):
                        self.says([0, 0], stretches_in(listed), whole[:2], i, k, n)

    def test_stretches_told_in_parts(self):
        parts = [(10, 12, 1, 2), (12, 15, 1, 2), (15, 20, 3, 2), (30, 31, 1, 2), (31, 32, 1, 2), (32, 35, 1, 2)]
        self.says([0, 0], parts + [(35, 36, 0, 1), (36, 37, 0, 1), (37, 38, 1, 2)])

    def test_worths_that_are_not_in_lowest_terms(self):
        stretches = [(10, 15, 2, 4), (15, 20, 21, 14), (30, 35, FAR // 2, FAR), (35, 37, 0, FAR), (37, 38, 1, 2)]
        self.says([0, 0], stretches)

    def test_parts_of_one_stretch_in_unlike_terms(self):
        self.says([0, 0], [(10, 11, 5, 10), (11, 15, 3, 6), *RIGHT[1:]])

    def test_a_sum_that_is_not_in_lowest_terms(self):
        self.says([0, 0], RIGHT, (26, 2))
        self.says([0, 0], RIGHT, (13 * 10 ** 16, 10 ** 16))

    def test_no_stretch(self):
        for whole in ((0, 1), (0, 7), (0, FAR)):
            with self.subTest(whole=whole):
                self.says([0, 0], [], whole, i=1)
                self.says([0, 0], [], whole, k=1)
                self.says([0, 0], [], whole, n=0)

    def test_100_stretches(self):
        calls = [defect("a"), rule("a"), live(1, 1, 3, WHOLE), scale(0, 1, 1, WHOLE), meter(1, 7, WHOLE)]
        calls += [set_on(0, *[(at, at + 1) for at in range(first, first + 40, 2)]) for first in range(0, 200, 40)]
        stretches = [(at, at + 1, 7 * (1 + at), 3 * (1 + at)) for at in range(0, 200, 2)]
        self.assertEqual([0, 0], last(*calls, judge(0, 0, 10, 700, 3, *stretches)))
        self.assertEqual([2, 0], last(*calls, judge(0, 0, 10, 699, 3, *stretches)))
        self.assertEqual([1, 198], last(*calls, judge(0, 0, 10, 700, 3, *stretches[:99])))

    def test_all_blocks_as_one_stretch(self):
        calls = [rule("all"), meter(1, 9999, WHOLE), live(1, 1, 1, WHOLE), scale(0, 1, 1, WHOLE)]
        self.assertEqual([0, 0], last(*calls, judge(0, 0, 4, 99990000, 1, (0, 10000, 9999, 1))))
        self.assertEqual([0, 0], last(*calls, judge(0, 0, 4, 99990000, 1, (0, 1, 9999, 1), (1, 10000, 9999, 1))))


class OrderTest(JudgeTest):
    """3 0: a stretch is empty, or begins ahead of where the one before ends."""

    def test_empty(self):
        for start in (0, 10, 12, 9999, 10000):
            with self.subTest(start=start):
                self.says([3, 0], [(start, start, 1, 2)])
        self.says([3, 0], RIGHT[:1] + [(15, 15, 1, 2)] + RIGHT[1:])
        self.says([3, 0], RIGHT + [(38, 38, 1, 2)])

    def test_turned(self):
        self.says([3, 0], [(15, 10, 1, 2)])
        self.says([3, 0], [(10000, 0, 1, 2)])

    def test_begins_ahead_of_where_the_one_before_ends(self):
        self.says([3, 0], [(10, 15, 1, 2), (14, 20, 3, 2), *RIGHT[2:]])
        self.says([3, 0], [(10, 15, 1, 2), (10, 15, 1, 2), *RIGHT[1:]])
        self.says([3, 0], [RIGHT[1], RIGHT[0], *RIGHT[2:]])
        self.says([3, 0], RIGHT + [(0, 1, 1, 2)])

    def test_goes_ahead_of_all_else(self):
        self.says([3, 0], [(0, 1, 1, 2), (5, 5, 1, 2)])
        self.says([3, 0], [(10, 15, 7, 2), *RIGHT[1:], (38, 38, 1, 2)])
        self.says([3, 0], [*RIGHT, (38, 38, 1, 2)], (0, 1))
        self.says([3, 0], [(0, 0, 1, 2)], i=1)


class BlockTest(JudgeTest):
    """1 and the first block that's in no stretch though it should be, or the other way round."""

    def test_a_stretch_is_gone(self):
        for at in range(5):
            with self.subTest(at=at):
                self.says([1, RIGHT[at][0]], RIGHT[:at] + RIGHT[at + 1:])
        self.says([1, 10], [])

    def test_a_worth_of_0_is_not_left_out(self):
        self.says([1, 35], RIGHT[:3] + RIGHT[4:])

    def test_a_block_is_gone(self):
        self.says([1, 10], [(11, 15, 1, 2), *RIGHT[1:]])
        self.says([1, 14], [(10, 14, 1, 2), *RIGHT[1:]])
        self.says([1, 12], [(10, 12, 1, 2), (13, 15, 1, 2), *RIGHT[1:]])
        self.says([1, 36], [*RIGHT[:3], (35, 36, 0, 1), RIGHT[4]])

    def test_a_block_that_is_not_good(self):
        self.says([1, 9], [(9, 15, 1, 2), *RIGHT[1:]])
        self.says([1, 20], [RIGHT[0], (15, 21, 3, 2), *RIGHT[2:]])
        self.says([1, 20], [*RIGHT[:2], (20, 30, 1, 2), *RIGHT[2:]])
        self.says([1, 0], [(0, 1, 1, 2), *RIGHT])
        self.says([1, 9999], [*RIGHT, (9999, 10000, 1, 2)])
        self.says([1, 0], [WHOLE + (1, 2)], i=1)

    def test_a_block_that_lacks(self):
        self.says([1, 38], [*RIGHT[:4], (37, 39, 1, 2)])
        self.says([1, 39], [*RIGHT, (39, 40, 0, 1)])
        self.says([1, 10], RIGHT, k=1)

    def test_the_first_of_both_ways(self):
        self.says([1, 9], [(9, 15, 1, 2), *RIGHT[2:]])
        self.says([1, 15], [RIGHT[0], (16, 21, 3, 2), *RIGHT[2:]])
        self.says([1, 20], [RIGHT[0], (15, 21, 3, 2), *RIGHT[3:]])

    def test_goes_ahead_of_wrong_worths_and_sums(self):
        self.says([1, 37], [(10, 15, 9, 2), *RIGHT[1:4]], (0, 1))
        self.says([1, 39], [(10, 15, 9, 2), *RIGHT[1:], (39, 40, 1, 2)])


class WorthTest(JudgeTest):
    """4 and the beginning of the first stretch that has a block worth something else."""

    def test_each_stretch(self):
        for at in range(5):
            start, end, above, below = RIGHT[at]
            with self.subTest(at=at):
                self.says([4, start], [*RIGHT[:at], (start, end, above + 1, below), *RIGHT[at + 1:]])

    def test_the_first_one(self):
        self.says([4, 15], [RIGHT[0], (15, 20, 1, 1), (30, 35, 1, 1), *RIGHT[3:]])

    def test_one_block_of_a_long_stretch(self):
        self.says([4, 30], [*RIGHT[:2], (30, 38, 1, 2)])
        self.says([4, 10], [(10, 20, 1, 2), *RIGHT[2:]])
        self.says([4, 10], [(10, 20, 3, 2), *RIGHT[2:]])
        self.says([4, 14], [(10, 14, 1, 2), (14, 20, 3, 2), *RIGHT[2:]])

    def test_the_beginning_of_the_part_told(self):
        self.says([4, 12], [(10, 12, 1, 2), (12, 13, 2, 3), (13, 15, 1, 2), *RIGHT[1:]])

    def test_0_for_something_and_something_for_0(self):
        self.says([4, 10], [(10, 15, 0, 5), *RIGHT[1:]])
        self.says([4, 35], [*RIGHT[:3], (35, 37, 1, FAR), RIGHT[4]])

    def test_nearly_the_same(self):
        self.says([4, 10], [(10, 15, FAR // 2, FAR - 1), *RIGHT[1:]])
        self.says([4, 10], [(10, 15, FAR // 2 - 1, FAR), *RIGHT[1:]])
        self.says([4, 10], [(10, 15, 2, 1), *RIGHT[1:]])

    def test_goes_ahead_of_a_wrong_sum(self):
        self.says([4, 37], [*RIGHT[:4], (37, 38, 3, 2)], (0, 1))

    def test_a_sum_that_fits_wrong_worths(self):
        self.says([4, 10], [(10, 15, 3, 2), (15, 20, 1, 2), *RIGHT[2:]])


class SumTest(JudgeTest):
    """2 0: the sum is another."""

    def test_other_sums(self):
        for whole in ((12, 1), (14, 1), (13, 2), (0, 1), (1, 13), (25, 2), (FAR, 1), (13, FAR), (FAR, FAR)):
            with self.subTest(whole=whole):
                self.says([2, 0], RIGHT, whole)

    def test_a_sum_below_0(self):
        for whole in ((-13, 1), (-1, 1), (-FAR, 1), (-FAR, FAR)):
            with self.subTest(whole=whole):
                self.says([2, 0], RIGHT, whole)
                self.says([2, 0], [], whole, i=1)

    def test_no_stretch_and_a_sum(self):
        self.says([2, 0], [], (1, FAR), i=1)

    def test_each_worth_counts_as_often_as_it_has_blocks(self):
        self.says([2, 0], RIGHT, (3, 1))


class AsOfTest(JudgeTest):
    def test_as_of_earlier_places_of_a_rule_told_later(self):
        calls = [*TOLD, lift(0, 0, (0, 12)), meter(3, 4, (30, 40))]
        later = [(12, 15, 1, 2), RIGHT[1], (30, 38, 1, 1)]
        given = ask(*calls, *[judge(0, 0, n, 13, 1, *RIGHT) for n in range(13)])[-13:]
        self.assertEqual([[1, 10]] * 7 + [[0, 0]] * 4 + [[1, 10], [1, 10]], given)
        given = ask(*calls, *[judge(0, 0, n, 17, 1, *later) for n in (10, 11, 12)])[-3:]
        self.assertEqual([[1, 10], [4, 30], [0, 0]], given)


class RefusalTest(JudgeTest):
    def row(self, row, code=-1):
        self.refused(code, *TOLD, with_row(13, [0, 0, 10, 13, 1], row))

    def test_rows_whose_length_is_no_multiple_of_4(self):
        for count in (1, 2, 3, 5, 6, 7, 19, 399):
            with self.subTest(count=count):
                self.row([10, 15, 1, 2, 15, 20, 3, 2][:count] + [1] * (count - 8))

    def test_from_and_up_to_at_their_ends(self):
        for stretch in ((-1, 5, 1, 2), (0, 10001, 1, 2), (10001, 10001, 1, 2), (10001, 5, 1, 2), (5, -1, 1, 2),
                        (-FAR, FAR, 1, 2), (FAR, FAR, 1, 2), (-1, -1, 1, 2)):
            with self.subTest(stretch=stretch):
                self.row(stretch)
                self.row([10, 15, 1, 2, *stretch])
        self.says([3, 0], [(10000, 10000, 1, 2)])
        self.says([3, 0], [(0, 0, 1, 2)])
        self.says([1, 0], [(0, 10000, 1, 2)])

    def test_the_worths_numbers(self):
        for above, below in ((-1, 2), (1, 0), (0, 0), (1, -1), (-1, -2), (-FAR, 1), (1, -FAR)):
            with self.subTest(above=above, below=below):
                self.row([10, 15, above, below])
                self.row([*RIGHT[0], *RIGHT[1], 30, 35, above, below])
        self.says([1, 15], [(10, 15, FAR, FAR)])
        self.says([1, 15], [(10, 15, 0, 1)])

    def test_rows_of_400(self):
        self.row([FAR] * 400)
        self.row([-FAR] * 400)
        self.says([3, 0], [(5, 6, FAR, FAR)] * 100)
        self.says([1, 0], [(at, at + 1, FAR, FAR - at) for at in range(100)])

    def test_the_sums_lower_number(self):
        for b in (-FAR, -1, 0):
            with self.subTest(b=b):
                self.says([-1], RIGHT, (13, b))

    def test_numbers_out_of_range(self):
        for wrong in (-FAR, -1, 101, FAR):
            with self.subTest(wrong=wrong):
                self.says([-1], RIGHT, n=wrong)
                self.says([-1], RIGHT, k=wrong)
        self.says([-1], RIGHT, k=4)

    def test_no_such_rule_and_not_so_many_writings(self):
        for i in (-FAR, -1, 3, 10, FAR):
            with self.subTest(i=i):
                self.says([-2], RIGHT, i=i)
        self.says([-7], RIGHT, n=11)
        self.says([-7], RIGHT, n=100)

    def test_order_of_refusals(self):
        self.says([-1], RIGHT, (13, 0), i=3, n=11)
        self.says([-1], RIGHT, i=3, k=4, n=11)
        self.says([-1], RIGHT, i=3, n=101)
        self.says([-1], [(10, 15, 1, 0)], i=3, n=11)
        self.says([-1], [(5, 5, 1, 2), (10, 15, 1, 0)])
        self.says([-2], [(5, 5, 1, 2)], i=3, n=11)
        self.says([-7], [(5, 5, 1, 2)], n=11)


if __name__ == "__main__":
    unittest.main()

"""part, list, worth: the luminosity of good blocks within a set, its stretches, and what one block is worth."""

import unittest
from fractions import Fraction

from tests.support import (
    FAR,
    HouseTest,
    ask,
    defect,
    last,
    lift,
    list_of,
    live,
    lumi,
    meter,
    part,
    rule,
    scale,
    set_on,
    stretches_in,
    with_row,
    worth,
)

WHOLE = (0, 10000)
# By 9: rule 0 lets (0, 10) and (20, 30); blocks (0, 25) are worth 12 * 2 / 3 / 5 = 8 / 5 for chain 0.
TOLD = [
    defect("a"),
    set_on(0, (0, 10), (20, 30)),
    meter(1, 12, (0, 100)),
    live(1, 2, 3, (0, 25)),
    scale(0, 1, 5, (0, 100)),
    scale(1, 1, 7, (2, 8)),
    rule("a"),
    rule("not a"),
    rule("all"),
]


class PartTest(HouseTest):
    def given(self, *pairs, i=0, k=0, n=9):
        return last(*TOLD, part(i, k, n, *pairs))

    def test_a_set_that_cuts_the_good_blocks(self):
        self.assertEqual([64, 5, 8, 0], self.given((5, 23)))
        self.assertEqual([24, 5, 3, 0], self.given((7, 20)))
        self.assertEqual([24, 5, 8, 5], self.given((22, 100)))

    def test_a_set_around_and_beside(self):
        self.assertEqual([24, 1, 20, 5], self.given(WHOLE))
        self.assertEqual([0, 1, 0, 0], self.given((10, 20)))
        self.assertEqual([0, 1, 5, 5], self.given((25, 30)))

    def test_no_pair(self):
        self.assertEqual([0, 1, 0, 0], self.given())

    def test_pairs_that_overlap_touch_and_stand_in_any_order(self):
        self.assertEqual(self.given((3, 8)), self.given((6, 8), (3, 5), (4, 6), (3, 8)))
        self.assertEqual([8, 1, 5, 0], self.given((6, 8), (3, 5), (4, 6), (3, 8)))
        self.assertEqual([8, 1, 5, 0], self.given(*[(3, 8)] * 20))

    def test_first_and_last_block(self):
        self.assertEqual([8, 5, 1, 0], self.given((0, 1)))
        self.assertEqual([0, 1, 1, 1], self.given((9999, 10000), i=2))

    def test_chains_apart(self):
        self.assertEqual([24, 7, 5, 2], self.given((0, 5), k=1))
        self.assertEqual([0, 1, 5, 5], self.given((0, 5), k=2))

    def test_lumi_is_the_part_of_all(self):
        for i in range(3):
            for k in range(4):
                with self.subTest(i=i, k=k):
                    whole, within = ask(*TOLD, lumi(i, k, 9), part(i, k, 9, WHOLE))[-2:]
                    self.assertEqual(whole, within)

    def test_parts_of_a_set_cut_in_two_add_up(self):
        for at in (1, 5, 10, 15, 24, 25, 9999):
            for i in range(3):
                for k in range(2):
                    with self.subTest(at=at, i=i, k=k):
                        calls = [lumi(i, k, 9), part(i, k, 9, (0, at)), part(i, k, 9, (at, 10000))]
                        self.adds_up(*ask(*TOLD, *calls)[-3:])

    def test_parts_cut_by_many_pairs_add_up(self):
        ends = [0, 1, 4, 5, 9, 11, 21, 22, 24, 27, 30, 9999, 10000]
        pairs = list(zip(ends, ends[1:]))
        for i in range(3):
            with self.subTest(i=i):
                calls = [lumi(i, 0, 9), part(i, 0, 9, *pairs[::2]), part(i, 0, 9, *pairs[1::2])]
                self.adds_up(*ask(*TOLD, *calls)[-3:])

    def adds_up(self, whole, one, other):
        self.assertEqual(Fraction(*whole[:2]), Fraction(*one[:2]) + Fraction(*other[:2]))
        self.assertEqual(whole[2:], [one[2] + other[2], one[3] + other[3]])

    def test_as_of_earlier_places_of_a_rule_told_later(self):
        calls = [*TOLD, meter(2, 24, (0, 6)), lift(0, 0, (0, 3))]
        given = ask(*calls, *[part(0, 0, n, (2, 8)) for n in range(12)])[-12:]
        wanted = [[0, 1, 0, 0]] * 2 + [[0, 1, 6, 6]] * 3 + [[48, 5, 6, 0]] * 5 + [[16, 1, 6, 0], [64, 5, 5, 0]]
        self.assertEqual(wanted, given)

    def test_rows_that_are_no_set(self):
        for row in ([1], [1, 1], [2, 1], [-1, 1], [9999, 10001], [1, 2, 3], [1, 2] * 21, [FAR] * 400, [-FAR, FAR]):
            with self.subTest(row=row[:4]):
                self.refused(-1, *TOLD, with_row(11, [0, 0, 9], row))

    def test_numbers_out_of_range(self):
        for wrong in (-FAR, -1, 101, FAR):
            with self.subTest(wrong=wrong):
                self.refused(-1, *TOLD, part(0, 0, wrong, (1, 2)))
                self.refused(-1, *TOLD, part(0, wrong, 9, (1, 2)))
        self.refused(-1, *TOLD, part(0, 4, 9, (1, 2)))

    def test_no_such_rule_and_not_so_many_writings(self):
        for i in (-FAR, -1, 3, 10, FAR):
            with self.subTest(i=i):
                self.refused(-2, *TOLD, part(i, 0, 9, (1, 2)))
        for n in (10, 100):
            with self.subTest(n=n):
                self.refused(-7, *TOLD, part(0, 0, n, (1, 2)))

    def test_order_of_refusals(self):
        self.refused(-1, *TOLD, part(3, 0, 10, (2, 2)))
        self.refused(-1, *TOLD, part(3, 4, 10, (1, 2)))
        self.refused(-1, *TOLD, part(3, 0, 101, (1, 2)))
        self.refused(-1, *TOLD, part(0, 0, 10, (2, 2)))
        self.refused(-2, *TOLD, part(3, 0, 10, (1, 2)))


class ListTest(HouseTest):
    def given(self, *calls, i=0, k=0):
        """The stretches of rule i, "all", as of these calls."""
        calls = [rule("all"), *calls]
        return stretches_in(last(*calls, list_of(i, k, len(calls))))

    def test_ordinary(self):
        self.assertEqual([2, 0, 10, 8, 5, 20, 25, 8, 5], last(*TOLD, list_of(0, 0, 9)))
        self.assertEqual([1, 10, 20, 8, 5], last(*TOLD, list_of(1, 0, 9)))
        self.assertEqual([1, 0, 25, 8, 5], last(*TOLD, list_of(2, 0, 9)))
        self.assertEqual([1, 2, 8, 8, 7], last(*TOLD, list_of(0, 1, 9)))

    def test_no_stretch(self):
        self.assertEqual([0], last(*TOLD, list_of(0, 2, 9)))
        self.assertEqual([0], last(rule("not all"), list_of(0, 0, 1)))
        self.assertEqual([0], last(rule("all"), list_of(0, 0, 0)))

    def test_other_worths_part_stretches(self):
        calls = [meter(1, 4, (0, 6)), meter(1, 5, (6, 9)), live(1, 1, 1, WHOLE), scale(0, 1, 1, WHOLE)]
        self.assertEqual([(0, 6, 4, 1), (6, 9, 5, 1)], self.given(*calls))

    def test_one_worth_by_unlike_meters_is_one_stretch(self):
        calls = [meter(1, 4, (0, 6)), meter(2, 4, (5, 7)), meter(1, 4, (7, 9)), meter(3, 4, (8, 12))]
        self.assertEqual([(0, 12, 4, 1)], self.given(*calls, live(1, 1, 1, WHOLE), scale(0, 1, 1, WHOLE)))

    def test_one_worth_by_unlike_live_fractions_is_one_stretch(self):
        calls = [live(1, 1, 2, (0, 6)), live(2, 2, 4, (6, 9)), live(1, 500, 1000, (9, 11)), live(1, 2, 3, (11, 12))]
        self.assertEqual([(0, 11, 1, 2), (11, 12, 2, 3)], self.given(*calls, meter(1, 1, WHOLE), scale(0, 1, 1, WHOLE)))

    def test_one_worth_by_unlike_meters_live_fractions_and_scales_is_one_stretch(self):
        calls = [meter(1, 3, (0, 10)), live(1, 1, 2, (0, 10)), scale(0, 1, 5, (0, 10))]
        calls += [meter(1, 6, (10, 20)), live(1, 1, 4, (10, 20)), scale(0, 1, 5, (10, 15)), scale(0, 3, 5, (15, 20))]
        calls += [meter(1, 9, (20, 30)), live(1, 2, 3, (20, 30)), scale(0, 1, 20, (20, 30))]
        self.assertEqual([(0, 30, 3, 10)], self.given(*calls))

    def test_lowest_terms(self):
        calls = [meter(1, 30, (0, 1)), live(1, 14, 35, (0, 1)), scale(0, 1, 18, (0, 1))]
        self.assertEqual([(0, 1, 2, 3)], self.given(*calls))

    def test_blocks_that_lack_part_stretches(self):
        told = [meter(1, 4, (0, 5), (6, 9)), live(1, 1, 1, (0, 7), (8, 9)), scale(0, 1, 1, (0, 2), (3, 10))]
        wanted = [(0, 2, 4, 1), (3, 5, 4, 1), (6, 7, 4, 1), (8, 9, 4, 1)]
        self.assertEqual(wanted, self.given(*told))

    def test_blocks_that_are_not_good_part_stretches(self):
        calls = [defect("a"), set_on(0, (3, 4), (6, 8)), rule("not a")]
        calls += [meter(1, 4, (0, 10)), live(1, 1, 1, WHOLE), scale(0, 1, 1, WHOLE)]
        wanted = [(0, 3, 4, 1), (4, 6, 4, 1), (8, 10, 4, 1)]
        self.assertEqual(wanted, self.given(*calls, i=1))

    def test_a_worth_of_0_is_in_the_list(self):
        calls = [meter(1, 0, (0, 5)), meter(1, 4, (5, 9)), live(1, 1, 7, (0, 8)), live(1, 0, 7, (8, 10))]
        self.assertEqual([(0, 5, 0, 1), (5, 8, 4, 7), (8, 9, 0, 1)], self.given(*calls, scale(0, 1, 1, WHOLE)))

    def test_a_worth_of_0_told_in_unlike_ways_is_one_stretch(self):
        calls = [meter(1, 0, (0, 5)), meter(1, 4, (5, 9)), live(1, 1, 7, (0, 5)), live(1, 0, 3, (5, 10))]
        self.assertEqual([(0, 9, 0, 1)], self.given(*calls, scale(0, 1, 9, (0, 7)), scale(0, 1, 10, (7, 9))))

    def test_the_ends_of_the_blocks(self):
        calls = [meter(1, 2, WHOLE), live(1, 1, 1, (0, 1), (9999, 10000)), scale(0, 1, 1, WHOLE)]
        self.assertEqual([(0, 1, 2, 1), (9999, 10000, 2, 1)], self.given(*calls))
        self.assertEqual([(0, 10000, 2, 1)], self.given(*calls, live(1, 1, 1, (1, 9999))))

    def test_the_list_adds_up_to_lumi(self):
        calls = [*TOLD, meter(2, 7, (3, 22)), live(3, 5, 11, (1, 6), (9, 28))]
        for i in range(3):
            for k in range(2):
                with self.subTest(i=i, k=k):
                    whole, listed = ask(*calls, lumi(i, k, 11), list_of(i, k, 11))[-2:]
                    found = stretches_in(listed)
                    summed = sum((end - start) * Fraction(above, below) for start, end, above, below in found)
                    self.assertEqual(Fraction(*whole[:2]), summed)
                    self.assertEqual(whole[2] - whole[3], sum(end - start for start, end, above, below in found))

    def test_as_of_earlier_places_of_a_rule_told_later(self):
        calls = [*TOLD, meter(2, 24, (0, 6)), lift(0, 0, (0, 3))]
        given = [stretches_in(answer) for answer in ask(*calls, *[list_of(0, 0, n) for n in range(12)])[-12:]]
        before = [(0, 10, 8, 5), (20, 25, 8, 5)]
        later = [(0, 6, 16, 5), (6, 10, 8, 5), (20, 25, 8, 5)]
        self.assertEqual([[]] * 5 + [before] * 5 + [later, [(3, 6, 16, 5), *later[1:]]], given)

    def test_refusals_in_their_order(self):
        for wrong in (-FAR, -1, 101, FAR):
            with self.subTest(wrong=wrong):
                self.refused(-1, *TOLD, list_of(0, 0, wrong))
                self.refused(-1, *TOLD, list_of(0, wrong, 9))
        self.refused(-1, *TOLD, list_of(3, 4, 10))
        self.refused(-1, *TOLD, list_of(3, 0, 101))
        for i in (-FAR, -1, 3, 10, FAR):
            with self.subTest(i=i):
                self.refused(-2, *TOLD, list_of(i, 0, 10))
        self.refused(-7, *TOLD, list_of(0, 3, 10))
        self.refused(-7, *TOLD, list_of(0, 0, 100))


class WorthTest(HouseTest):
    ENDS = ((0, 1), (9999, 10000))

    def test_ordinary(self):
        given = ask(*TOLD, *[worth(0, 9, b) for b in (0, 9, 10, 24, 25, 99, 100)], worth(1, 9, 2), worth(1, 9, 8))[9:]
        self.assertEqual([[1, 8, 5]] * 4 + [[0]] * 3 + [[1, 8, 7], [0]], given)

    def test_first_and_last_block(self):
        calls = [meter(1, 9999, *self.ENDS), live(1, 999, 1000, *self.ENDS), scale(3, 1, 1000, *self.ENDS)]
        wanted = Fraction(9999 * 999, 1000 * 1000)
        answer = [1, wanted.numerator, wanted.denominator]
        self.assertEqual([answer, answer, [0], [0]], ask(*calls, *[worth(3, 3, b) for b in (0, 9999, 1, 9998)])[3:])

    def test_each_of_the_three_may_lack(self):
        told = [meter(1, 5, (3, 4)), live(1, 1, 1, (3, 4)), scale(0, 1, 1, (3, 4))]
        self.assertEqual([1, 5, 1], last(*told, worth(0, 3, 3)))
        for gone in range(3):
            calls = [call for at, call in enumerate(told) if at != gone]
            with self.subTest(gone=gone):
                self.assertEqual([0], last(*calls, worth(0, 2, 3)))
        self.assertEqual([0], last(*told, worth(1, 3, 3)))

    def test_lowest_terms(self):
        calls = [meter(1, 30, WHOLE), live(1, 14, 35, WHOLE), scale(0, 1, 18, WHOLE)]
        self.assertEqual([1, 2, 3], last(*calls, worth(0, 3, 77)))

    def test_a_worth_of_0(self):
        calls = [meter(1, 0, (0, 5)), meter(1, 6, (5, 9)), live(1, 1, 7, (0, 5)), live(1, 0, 7, (5, 9))]
        calls.append(scale(0, 1, 3, WHOLE))
        self.assertEqual([[1, 0, 1], [1, 0, 1], [0]], ask(*calls, *[worth(0, 5, b) for b in (0, 8, 9)])[5:])

    def test_as_of_each_place(self):
        calls = [scale(0, 2, 3, WHOLE), live(1, 1, 2, WHOLE), meter(5, 8, WHOLE), meter(4, 9, WHOLE)]
        calls += [meter(6, 1, WHOLE), scale(0, 2, 4, WHOLE)]
        given = ask(*calls, *[worth(0, n, 5) for n in range(7)])[6:]
        self.assertEqual([[0]] * 3 + [[1, 4, 3], [1, 4, 3], [1, 1, 6], [1, 1, 8]], given)

    def test_needs_no_rule_and_no_writing(self):
        self.assertEqual([0], last(worth(3, 0, 9999)))

    def test_numbers_out_of_range(self):
        for wrong in (-FAR, -1, 10000, FAR):
            with self.subTest(wrong=wrong):
                self.refused(-1, *TOLD, worth(0, 9, wrong))
                self.refused(-1, *TOLD, worth(wrong, 9, 0))
                self.refused(-1, *TOLD, worth(0, wrong, 0))
        self.refused(-1, *TOLD, worth(4, 9, 0))
        self.refused(-1, *TOLD, worth(0, 101, 0))

    def test_not_so_many_writings_yet_and_the_order(self):
        self.refused(-7, *TOLD, worth(0, 10, 0))
        self.refused(-7, worth(0, 1, 0))
        self.refused(-1, *TOLD, worth(4, 10, 0))
        self.refused(-1, *TOLD, worth(0, 10, 10000))


if __name__ == "__main__":
    unittest.main()

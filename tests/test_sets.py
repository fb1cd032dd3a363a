"""Rows that tell sets, in every call that has one; set and lift, as good shows them."""

import unittest

from tests.support import (
    FAR,
    HouseTest,
    ask,
    defect,
    flat,
    good,
    last,
    lift,
    live,
    lumi,
    meter,
    pairs_in,
    rule,
    scale,
    set_on,
    with_row,
)

# The numbers of each call that has a set, such that the row alone decides.
WITH_SET = {2: [0], 3: [0, 0], 4: [1, 1], 5: [1, 1, 1], 6: [0, 1, 1]}
BEGINNING = [defect("a", 3), rule("a")]


class RowTest(HouseTest):
    def answer(self, row):
        """What each of the calls answers to this row: all alike."""
        given = {tuple(last(*BEGINNING, with_row(kind, numbers, row))) for kind, numbers in WITH_SET.items()}
        self.assertEqual(1, len(given), row)
        return list(given.pop())

    def test_ordinary(self):
        self.assertEqual([3], self.answer([5, 9, 20, 30]))

    def test_no_pair(self):
        self.assertEqual([3], self.answer([]))

    def test_20_and_21_pairs(self):
        self.assertEqual([3], self.answer(flat((10 * at, 10 * at + 5) for at in range(20))))
        self.assertEqual([-1], self.answer(flat((10 * at, 10 * at + 5) for at in range(21))))

    def test_20_pairs_alike(self):
        self.assertEqual([3], self.answer([7, 8] * 20))

    def test_rows_of_400(self):
        self.assertEqual([-1], self.answer([7, 8] * 200))
        self.assertEqual([-1], self.answer([FAR] * 400))

    def test_half_a_pair(self):
        self.assertEqual([-1], self.answer([7]))
        self.assertEqual([-1], self.answer([7, 8, 9]))
        self.assertEqual([-1], self.answer([7, 8] * 19 + [9]))

    def test_first_and_last_block(self):
        self.assertEqual([3], self.answer([0, 1]))
        self.assertEqual([3], self.answer([9999, 10000]))
        self.assertEqual([3], self.answer([0, 10000]))

    def test_beyond_the_blocks(self):
        self.assertEqual([-1], self.answer([-1, 1]))
        self.assertEqual([-1], self.answer([9999, 10001]))
        self.assertEqual([-1], self.answer([10000, 10001]))
        self.assertEqual([-1], self.answer([-FAR, FAR]))
        self.assertEqual([-1], self.answer([5, FAR]))
        self.assertEqual([-1], self.answer([-FAR, 5]))

    def test_empty_and_turned_pairs(self):
        self.assertEqual([-1], self.answer([5, 5]))
        self.assertEqual([-1], self.answer([0, 0]))
        self.assertEqual([-1], self.answer([10000, 10000]))
        self.assertEqual([-1], self.answer([6, 5]))

    def test_a_wrong_pair_behind_right_ones(self):
        self.assertEqual([-1], self.answer([1, 2, 3, 4, 6, 5]))


class FormTest(HouseTest):
    def form(self, *pairs):
        """The form of a set, as good tells it."""
        return pairs_in(last(*BEGINNING, set_on(0, *pairs), good(0, 3)))

    def test_no_pair(self):
        self.assertEqual([0, 0], last(*BEGINNING, set_on(0), good(0, 3)))

    def test_size_count_and_pairs(self):
        self.assertEqual([7, 2, 1, 5, 8, 11], last(*BEGINNING, set_on(0, (1, 5), (8, 11)), good(0, 3)))

    def test_order(self):
        self.assertEqual([(1, 2), (4, 6), (9, 10)], self.form((9, 10), (1, 2), (4, 6)))

    def test_touching(self):
        self.assertEqual([(1, 6)], self.form((1, 3), (3, 6)))
        self.assertEqual([(1, 6)], self.form((3, 6), (1, 3)))

    def test_one_block_apart(self):
        self.assertEqual([(1, 3), (4, 6)], self.form((4, 6), (1, 3)))

    def test_overlapping(self):
        self.assertEqual([(1, 9)], self.form((3, 9), (1, 5)))
        self.assertEqual([(1, 9)], self.form((1, 9), (3, 5)))
        self.assertEqual([(1, 9)], self.form((1, 9), (1, 2), (8, 9)))

    def test_told_twice(self):
        self.assertEqual([(1, 9)], self.form((1, 9), (1, 9)))

    def test_a_chain_of_meeting_pairs(self):
        self.assertEqual([(0, 21)], self.form(*[(at, at + 2) for at in range(19, -1, -1)]))

    def test_20_pairs_apart(self):
        pairs = [(500 * at, 500 * at + 1) for at in range(20)]
        self.assertEqual(pairs, self.form(*reversed(pairs)))

    def test_ends(self):
        self.assertEqual([(0, 1), (9999, 10000)], self.form((9999, 10000), (0, 1)))
        self.assertEqual([(0, 10000)], self.form((0, 10000)))


class SetAndLiftTest(HouseTest):
    def test_sets_add_up(self):
        self.good_pairs([(1, 9), (20, 30)], *BEGINNING, set_on(0, (1, 5)), set_on(0, (5, 9), (20, 30)), good(0, 4))

    def test_lift_takes_away(self):
        calls = [*BEGINNING, set_on(0, (1, 9)), lift(0, 3, (3, 5))]
        self.good_pairs([(1, 3), (5, 9)], *calls, good(0, 4))

    def test_lift_all(self):
        self.good_pairs([], *BEGINNING, set_on(0, (1, 9)), lift(0, 3, (0, 10000)), good(0, 4))

    def test_lift_what_is_not_set(self):
        self.good_pairs([(1, 9)], *BEGINNING, lift(0, 3, (1, 9)), set_on(0, (1, 9)), good(0, 4))
        self.good_pairs([(1, 9)], *BEGINNING, set_on(0, (1, 9)), lift(0, 3, (9, 12), (0, 1)), good(0, 4))

    def test_lift_nothing(self):
        self.good_pairs([(1, 9)], *BEGINNING, set_on(0, (1, 9)), lift(0, 3), good(0, 4))

    def test_last_word_counts(self):
        calls = [*BEGINNING, set_on(0, (1, 9)), lift(0, 0, (3, 7)), set_on(0, (4, 5))]
        self.good_pairs([(1, 3), (4, 5), (7, 9)], *calls, good(0, 5))

    def test_lift_by_overlapping_pairs(self):
        calls = [*BEGINNING, set_on(0, (0, 10000)), lift(0, 0, (5, 8), (7, 10), (10, 11), (0, 1), (9999, 10000))]
        self.good_pairs([(1, 5), (11, 9999)], *calls, good(0, 4))

    def test_each_defect_has_its_own_blocks(self):
        calls = [defect("a"), defect("b"), rule("a"), rule("b")]
        calls += [set_on(0, (1, 5)), set_on(1, (3, 8)), lift(0, 0, (4, 5))]
        self.good_pairs([(1, 4)], *calls, good(0, 7))
        self.good_pairs([(3, 8)], *calls, good(1, 7))

    def test_the_eighth_defect(self):
        calls = [defect(name) for name in "abcdefgh"]
        calls += [set_on(d, (d, d + 1)) for d in range(8)] + [rule("h"), rule("not either a h")]
        self.good_pairs([(7, 8)], *calls, good(0, 18))
        self.good_pairs([(1, 7), (8, 10000)], *calls, good(1, 18))

    def test_no_such_defect(self):
        self.refused(-2, set_on(0, (1, 2)))
        for d in (-FAR, -1, 1, 8, FAR):
            with self.subTest(d=d):
                self.refused(-2, *BEGINNING, set_on(d, (1, 2)))

    def test_row_goes_ahead_of_no_such_defect(self):
        self.refused(-1, *BEGINNING, set_on(1, (2, 2)))
        self.refused(-1, *BEGINNING, with_row(2, [FAR], [1]))

    def test_as_of_each_place(self):
        calls = [*BEGINNING, set_on(0, (1, 9)), lift(0, 3, (3, 5)), set_on(0, (4, 12))]
        given = ask(*calls, *[good(0, n) for n in range(6)])[5:]
        wanted = [[], [], [], [(1, 9)], [(1, 3), (5, 9)], [(1, 3), (4, 12)]]
        self.assertEqual(wanted, [pairs_in(answer) for answer in given])


class OverlappingValuesTest(HouseTest):
    def test_a_block_told_twice_in_one_row_counts_once(self):
        calls = [rule("all"), meter(1, 5, (0, 4), (2, 6), (6, 8)), live(1, 1, 1, (0, 8), (0, 8))]
        calls.append(scale(0, 1, 1, (0, 8), (7, 9)))
        self.assertEqual([40, 1, 10000, 9992], last(*calls, lumi(0, 0, 4)))


if __name__ == "__main__":
    unittest.main()

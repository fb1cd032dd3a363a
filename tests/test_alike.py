"""alike, looks: how far rules look, which defects they name, and the first case that parts two of them."""

import random
import unittest
from itertools import product

from goodblocks.cases import Rivals, places_beyond, rows_of_blocks
from tests.support import FAR, HouseTest, alike, ask, case_in, defect, good, last, looks, pairs_in, rule, set_on

EIGHT = [defect(name) for name in "abcdefgh"]
# Alike but at the end of all blocks: there a lone block of a with one other block beside it is no run of 3.
LONG_2 = "long 2 a"
LONG_2_BUT_AT_THE_ENDS = "both a not long 3 not long 2 a"
# Alike but at the end, as well: there one of a and one other, ahead of three of a, are a run of 2.
LONE_OR_TWO = "both a long 3 not long 3 a"
LONE_OR_TWO_AND_AT_THE_ENDS = "both a long 2 not long 3 a"


def held(one, other):
    return last(*EIGHT, rule(one), rule(other), alike(0, 1))


class LooksTest(HouseTest):
    def looks(self, wanted, text):
        self.assertEqual(wanted, last(*EIGHT, rule(text), looks(0)), text)

    def test_all_names_and_not(self):
        self.looks([0, 0], "all")
        self.looks([0, 1, 2], "c")
        self.looks([0, 0], "not all")
        self.looks([0, 1, 7], "not not h")

    def test_long(self):
        self.looks([0, 1, 0], "long 1 a")
        self.looks([1, 1, 0], "long 2 a")
        self.looks([19, 1, 0], "long 20 a")
        self.looks([2, 0], "long 3 all")

    def test_nested_long(self):
        self.looks([3, 1, 0], "long 2 long 3 a")
        self.looks([3, 1, 0], "long 3 not long 2 a")
        self.looks([4, 1, 0], "long 2 not long 3 not long 2 a")
        self.looks([133, 1, 0], "long 20 " * 7 + "a")

    def test_both_and_either_as_the_one_that_looks_further(self):
        self.looks([4, 2, 0, 1], "both long 2 a long 5 b")
        self.looks([4, 2, 0, 1], "both long 5 a long 2 b")
        self.looks([4, 2, 0, 1], "either long 5 a b")
        self.looks([4, 2, 0, 1], "either a long 5 b")
        self.looks([6, 3, 0, 1, 2], "long 3 both either a long 2 b long 5 c")

    def test_a_long_beside_another_keeps_its_own_n(self):
        self.looks([10, 2, 0, 1], "both long 2 long 4 a long 11 b")
        self.looks([11, 2, 0, 1], "either long 2 long 11 a long 4 b")

    def test_a_defect_named_twice(self):
        self.looks([0, 1, 3], "both d not d")
        self.looks([0, 2, 1, 3], "either both d b both b d")

    def test_defects_rise(self):
        self.looks([0, 3, 0, 2, 6], "both g either c a")
        self.looks([0, 8, 0, 1, 2, 3, 4, 5, 6, 7], "both h both g both f both e both d both c both b a")

    def test_names_within_names(self):
        told = [defect("a"), defect("ab"), defect("b"), defect("bothb")]
        self.assertEqual([0, 1, 1], last(*told, rule("not ab"), looks(0)))
        self.assertEqual([0, 2, 2, 3], last(*told, rule("both bothb b"), looks(0)))

    def test_numbers_are_those_of_the_telling(self):
        told = [defect("z"), defect("m"), defect("b")]
        self.assertEqual([0, 2, 0, 2], last(*told, rule("both b z"), looks(0)))

    def test_stays_when_more_is_told(self):
        calls = [defect("a"), rule("long 4 a"), defect("b"), rule("b")]
        self.assertEqual([[3, 1, 0], [0, 1, 1]], ask(*calls, looks(0), looks(1))[4:])

    def test_no_such_rule(self):
        for i in (-FAR, -1, 1, 10, FAR):
            with self.subTest(i=i):
                self.refused(-2, rule("all"), looks(i))
        self.refused(-2, looks(0))


class AlikeTest(HouseTest):
    def alike(self, one, other):
        self.assertEqual([1], held(one, other), (one, other))
        self.assertEqual([1], held(other, one), (other, one))

    def parted(self, left, right, blocks, one, other):
        for first, second in ((one, other), (other, one)):
            self.assertEqual((left, right, blocks), case_in(held(first, second)), (first, second))

    def test_alike_by_other_words(self):
        self.alike("all", "not not all")
        self.alike("not both a b", "either not a not b")
        self.alike("both a either b c", "either both a b both a c")
        self.alike("long 1 a", "a")
        self.alike("long 2 long 3 a", "long 3 a")
        self.alike("both a b", "both b a")

    def test_alike_though_a_defect_is_named_by_one_alone(self):
        self.alike("a", "both a either b not b")
        self.alike("all", "either c not c")
        self.alike("not all", "both long 2 a not a")
        self.alike("a", "either a both h a")

    def test_rules_that_name_none(self):
        self.alike("all", "long 5 all")
        self.alike("not all", "long 5 not all")
        self.parted(0, 0, [[]], "all", "not all")
        self.parted(0, 0, [[], [], []], "all", "long 2 not all")
        self.parted(0, 0, [[]] * 9, "long 5 all", "not all")

    def test_a_rule_against_itself(self):
        for text in ("all", "a", "long 5 a", "long 3 either a b", "long 2 both a either b c", LONG_2_BUT_AT_THE_ENDS):
            with self.subTest(text=text):
                self.assertEqual([1], held(text, text))
                self.assertEqual([1], last(*EIGHT, rule(text), alike(0, 0)))

    def test_the_numbers_answered(self):
        self.assertEqual([0, 0, 0, 1, 0], held("a", "not a"))
        self.assertEqual([0, 0, 0, 1, 1, 0], held("a", "not all"))
        self.assertEqual([0, 0, 0, 3, 0, 1, 0, 0], held("a", "long 2 a"))
        self.assertEqual([0, 0, 0, 1, 2, 1, 3], held("both b d", "not all"))
        self.assertEqual([0, 3, 0, 4, 1, 0, 0, 1, 0, 1, 0], held(LONG_2, LONG_2_BUT_AT_THE_ENDS))

    def test_a_defect_named_by_one_alone(self):
        self.parted(0, 0, [[1]], "a", "b")
        self.parted(0, 0, [[0]], "a", "both a b")
        self.parted(0, 0, [[2]], "either a c", "a")
        self.parted(0, 0, [[]], "all", "e")

    def test_none_beyond(self):
        self.parted(0, 0, [[], [0], []], "a", "long 2 a")
        self.parted(0, 0, [[], [], [0], [0], []], "long 3 a", "long 2 a")
        self.parted(0, 0, [[], [], [], []] + [[0]] * 4 + [[]], "long 5 a", "long 4 a")

    def test_beyond_on_the_left(self):
        self.parted(3, 0, [[0], [], [0], [0]], LONG_2, LONG_2_BUT_AT_THE_ENDS)
        self.parted(3, 0, [[7], [], [7], [7]], "long 2 h", "both h not long 3 not long 2 h")
        self.parted(3, 0, [[], [0], [], []], "long 2 not a", "both not a not long 3 not long 2 not a")
        self.parted(4, 0, [[0], [], [0], [0], [0]], LONE_OR_TWO, LONE_OR_TWO_AND_AT_THE_ENDS)

    def test_a_case_on_the_right_is_never_the_first(self):
        """Whatever parts on the right parts on the left, too, turned round: and those cases go ahead."""
        names = list("abcdefgh")
        rivals = Rivals(LONG_2.split(), LONG_2_BUT_AT_THE_ENDS.split(), names)
        left = [row for row in rows_of_blocks([0], 4) if rivals.are_parted(row, 0)]
        right = [row for row in rows_of_blocks([0], 4) if rivals.are_parted(row, 3)]
        self.assertEqual([[[0], [], [0], [0]]], left)
        self.assertEqual([[[0], [0], [], [0]]], right)
        for count in (5, 6):
            for row in rows_of_blocks([0], count):
                self.assertFalse(rivals.are_parted(row, count - 4) or rivals.are_parted(row, 3), row)

    def test_no_such_rule(self):
        for i in (-FAR, -1, 2, 10, FAR):
            with self.subTest(i=i):
                self.refused(-2, rule("all"), rule("all"), alike(i, 0))
                self.refused(-2, rule("all"), rule("all"), alike(0, i))
                self.refused(-2, rule("all"), rule("all"), alike(i, i))
        self.refused(-2, alike(0, 0))

    def test_no_such_rule_goes_ahead_of_too_wide(self):
        self.refused(-2, *EIGHT, rule("long 20 a"), alike(0, 1))
        self.refused(-2, *EIGHT, rule("long 20 a"), alike(1, 0))

    def test_6_on_one_house_and_what_is_told_between(self):
        calls = [defect("a"), rule("a"), rule("long 2 a"), alike(0, 1), set_on(0, (5, 6)), alike(0, 1), alike(0, 0)]
        calls += [defect("b"), rule("either a b"), alike(0, 2), alike(2, 1), alike(1, 1)]
        given = [answer for call, answer in zip(calls, ask(*calls)) if call[0] == 16]
        wanted = [[0, 0, 0, 3, 0, 1, 0, 0]] * 2 + [[1], [0, 0, 0, 1, 1, 1], [0, 0, 0, 3, 0, 1, 1, 0], [1]]
        self.assertEqual(wanted, given)


class OrderTest(HouseTest):
    """Which case is the first: rules that only a few cases part."""

    def first(self, blocks, one, other):
        self.assertEqual((0, 0, blocks), case_in(held(one, other)), (one, other))

    def test_a_blocks_defects(self):
        """none, 2, 1, 1 2, 0, 0 2, 0 1, 0 1 2."""
        order = [[], [2], [1], [1, 2], [0], [0, 2], [0, 1], [0, 1, 2]]
        self.assertEqual([[block] for block in order], rows_of_blocks([0, 1, 2], 1))
        # Just the blocks from the at-th on are parted.
        texts = ["all", "either a either b c", "either a b", "either a both b c", "a", "both a either b c",
                 "both a b", "both a both b c"]
        for at, text in enumerate(texts):
            with self.subTest(text=text):
                self.first([order[at]], text, "not all")
                self.first([order[at]], "not all", text)
                self.first([order[at]], "not " + text, "all")

    def test_not_the_least_number_goes_ahead(self):
        self.first([[5]], "either c f", "not all")
        self.first([[2]], "either c f", "f")
        self.first([[2, 5]], "both f c", "not all")
        self.first([[2]], "c", "both c f")

    def test_blocks_from_the_left(self):
        self.assertEqual(
            [[[], []], [[], [4]], [[], [1]], [[], [1, 4]], [[4], []], [[4], [4]], [[4], [1]], [[4], [1, 4]]],
            rows_of_blocks([1, 4], 2)[:8],
        )
        self.assertEqual([[1, 4], [1, 4]], rows_of_blocks([1, 4], 2)[-1])
        self.first([[], [0], [0]], "long 2 a", "not all")
        self.first([[], [1], [1]], "long 2 either a b", "not all")
        self.first([[], [0], [1]], "both a long 2 either a b", "not all")
        self.first([[], [0, 1], [0]], "both b long 2 a", "not all")
        self.first([[0], [], [0]], "not either a long 2 not a", "not all")

    def test_beyond_comes_behind(self):
        self.assertEqual([(0, 0)], places_beyond(0))
        self.assertEqual([(0, 0), (1, 0), (2, 0), (3, 0), (0, 1), (0, 2), (0, 3)], places_beyond(3))

    def test_no_case_goes_ahead_of_the_one_told(self):
        """The case told parts as the rules are meant, and none of those ahead of it does."""
        one, other = LONE_OR_TWO.split(), LONE_OR_TWO_AND_AT_THE_ENDS.split()
        rivals = Rivals(one, other, ["a"])
        left, right, blocks = case_in(last(defect("a"), rule(" ".join(one)), rule(" ".join(other)), alike(0, 1)))
        ahead = []
        for count in range(left + 1):
            for row in rows_of_blocks([0], 9 - count):
                if rivals.are_parted(row, 4 - count):
                    ahead.append((count, row))
        self.assertEqual((left, blocks), ahead[0])
        self.assertEqual((4, 0), (left, right))


class WidthTest(HouseTest):
    def width(self, is_wide, one, other="all"):
        for first, second in ((one, other), (other, one), (one, one)):
            self.assertEqual(is_wide, held(first, second) == [-9], (first, second))

    def test_one_defect(self):
        self.width(False, "long 5 a")
        self.width(True, "long 6 a")

    def test_no_defect_counts_as_one(self):
        self.width(False, "long 5 all")
        self.width(True, "long 6 all")

    def test_two_defects(self):
        self.width(False, "long 3 both a b")
        self.width(True, "long 4 both a b")

    def test_three_defects(self):
        self.width(False, "long 2 both a both b c")
        self.width(True, "long 3 both a both b c")

    def test_four_defects(self):
        self.width(False, "long 1 both both a d both b c")
        self.width(True, "long 2 both both a d both b c")

    def test_eight_defects(self):
        eight = "both both both a b both c d both both e f both g h"
        self.width(False, eight)
        self.assertEqual((0, 0, [list(range(8))]), case_in(held(eight, "not all")))
        self.width(True, "both all long 2 " + eight)

    def test_the_defects_of_both_rules_are_counted_once(self):
        self.assertEqual([0, 0, 0, 5, 0, 0, 1, 0, 1, 0, 1, 0], held("long 3 a", "both a b"))
        self.assertEqual([-9], held("long 3 a", "both b c"))
        self.assertEqual([-9], held("long 3 both a b", "c"))
        self.assertEqual([1], held("long 3 both a b", "long 3 both b a"))

    def test_the_further_one_counts(self):
        self.assertEqual([-9], held("long 6 a", "a"))
        self.assertEqual([-9], held("a", "long 6 a"))
        self.assertEqual([-9], held("b", "long 4 a"))
        self.assertEqual([-9], held("long 2 long 2 long 2 long 2 long 2 a", "a"))

    def test_too_wide_against_itself(self):
        self.refused(-9, rule("long 20 all"), alike(0, 0))


class MeaningTest(HouseTest):
    """What alike says, held against what good lets in a house of 10000 blocks."""

    PAIRS = (
        ("a", "long 2 a"), ("long 3 either a b", "either long 3 a long 3 b"), (LONG_2, LONG_2_BUT_AT_THE_ENDS),
        ("long 2 not long 2 a", "not long 2 a"), ("both a b", "either a b"), ("long 3 a", "not long 3 not a"),
        (LONE_OR_TWO, LONE_OR_TWO_AND_AT_THE_ENDS), ("not both a b", "either not b not a"),
        ("long 2 long 3 a", "long 3 long 2 a"), ("either long 2 a long 2 not a", "all"),
        ("long 2 both a b", "both long 2 a long 2 b"), ("long 2 either a either b c", "either a either b c"),
        ("long 5 a", "long 4 a"), ("not long 5 not a", "not long 4 not long 2 not a"),
        ("long 3 a", "long 3 long 3 a"), ("both long 2 a long 3 a", "long 3 a"), ("long 2 either b c", "long 2 not c"),
    )

    def good_blocks(self, one, other, marks):
        """The blocks that each rule lets where marks has the blocks of each of the defects 0 to 2."""
        calls = [defect(name) for name in "abc"] + [rule(one), rule(other)]
        for d, blocks in enumerate(marks):
            for at in range(0, len(blocks), 20):
                calls.append(set_on(d, *[(b, b + 1) for b in blocks[at:at + 20]]))
        given = ask(*calls, good(0, len(calls)), good(1, len(calls)))[-2:]
        return [{b for start, end in pairs_in(answer) for b in range(start, end)} for answer in given]

    def house(self, first, row, around):
        """The blocks of each defect: of the row from block first on, and around it as chance says."""
        marks = [[], [], []]
        for b in [*range(max(0, first - 12), first), *range(first + len(row), min(10000, first + len(row) + 12))]:
            for d in range(3):
                if around.random() < 0.5:
                    marks[d].append(b)
        for at, block in enumerate(row):
            for d in block:
                marks[d].append(first + at)
        return marks

    def test_the_case_told_parts_them(self):
        around = random.Random(7)
        parted = 0
        for one, other in self.PAIRS:
            answer = last(*[defect(name) for name in "abc"], rule(one), rule(other), alike(0, 1))
            if answer == [1]:
                continue
            parted += 1
            left, right, row = case_in(answer)
            first = 0 if left else 10000 - len(row) if right else 5000
            middle = first + (len(row) + left + right) // 2 - left
            for each in range(4):
                with self.subTest(one=one, other=other):
                    by_one, by_other = self.good_blocks(one, other, self.house(first, row, around))
                    self.assertNotEqual(middle in by_one, middle in by_other)
        self.assertGreater(parted, 7)

    def test_alike_ones_let_the_same_blocks(self):
        around = random.Random(8)
        kept = 0
        for one, other in self.PAIRS:
            if last(*[defect(name) for name in "abc"], rule(one), rule(other), alike(0, 1)) != [1]:
                continue
            kept += 1
            for first in (0, 0, 0, 5000, 5000, 9990, 9990, 9990):
                row = [[d for d in range(3) if around.random() < 0.6] for at in range(10)]
                with self.subTest(one=one, other=other):
                    by_one, by_other = self.good_blocks(one, other, self.house(first, row, around))
                    self.assertEqual(by_one, by_other)
        self.assertGreater(kept, 3)

    def test_every_house_of_short_rows_at_the_ends(self):
        """The two that only the ends part: by good itself, at both ends."""
        found = set()
        for first in (0, 9995):
            for row in product(([], [0]), repeat=5):
                by_one, by_other = self.good_blocks(LONG_2, LONG_2_BUT_AT_THE_ENDS, self.only(first, row))
                found |= {(first, b) for b in by_one ^ by_other}
        self.assertEqual({(0, 0), (9995, 9999)}, found)

    def only(self, first, row):
        return [[first + at for at, block in enumerate(row) if block], [], []]


if __name__ == "__main__":
    unittest.main()

"""defectSet, owners, changed, counts: what was told, as of every place."""

import unittest

from tests.support import (
    FAR,
    HouseTest,
    ask,
    changed,
    counts,
    defect,
    defect_set,
    good,
    last,
    lift,
    live,
    lumi,
    meter,
    owner,
    owners,
    pairs_in,
    rule,
    scale,
    set_on,
    shown,
)

WHOLE = (0, 10000)
TOLD = [
    defect("a", 3),
    set_on(0, (10, 20), (15, 30)),
    rule("a"),
    lift(0, 3, (12, 14)),
    defect("b", 0),
    set_on(1, (13, 40)),
    owner(0, 3, 5),
    lift(0, 5, (28, 30)),
    rule("both a not b"),
    set_on(0, (28, 29), (30, 31)),
]


class DefectSetTest(HouseTest):
    def test_as_of_each_place(self):
        given = [pairs_in(answer) for answer in ask(*TOLD, *[defect_set(0, n) for n in range(11)])[10:]]
        one = [[(10, 30)]] * 2 + [[(10, 12), (14, 30)]] * 4 + [[(10, 12), (14, 28)]] * 2
        self.assertEqual([[], [], *one, [(10, 12), (14, 29), (30, 31)]], given)

    def test_of_a_defect_told_later(self):
        given = [pairs_in(answer) for answer in ask(*TOLD, *[defect_set(1, n) for n in range(11)])[10:]]
        self.assertEqual([[]] * 6 + [[(13, 40)]] * 5, given)

    def test_size_count_and_pairs(self):
        self.assertEqual([18, 3, 10, 12, 14, 29, 30, 31], last(*TOLD, defect_set(0, 10)))
        self.assertEqual([0, 0], last(*TOLD, defect_set(0, 1)))

    def test_the_ends(self):
        calls = [defect("a"), set_on(0, (9999, 10000), (0, 1)), set_on(0, WHOLE), lift(0, 0, (0, 1), (9999, 10000))]
        given = ask(*calls, *[defect_set(0, n) for n in (2, 3, 4)])[4:]
        self.assertEqual([[2, 2, 0, 1, 9999, 10000], [10000, 1, 0, 10000], [9998, 1, 1, 9999]], given)

    def test_touching_pairs_are_one(self):
        calls = [defect("a"), set_on(0, (5, 7)), set_on(0, (7, 9)), lift(0, 0, (6, 8)), set_on(0, (6, 7), (7, 8))]
        given = ask(*calls, *[defect_set(0, n) for n in (3, 4, 5)])[5:]
        self.assertEqual([[4, 1, 5, 9], [2, 2, 5, 6, 8, 9], [4, 1, 5, 9]], given)

    def test_as_good_of_a_rule_that_is_its_name(self):
        for n in range(11):
            with self.subTest(n=n):
                one, other = ask(*TOLD, defect_set(0, n), good(0, n))[10:]
                self.assertEqual(one, other)

    def test_a_refused_lift_lifts_nothing(self):
        calls = [*TOLD, lift(0, 3, WHOLE), lift(1, 5, WHOLE)]
        given = ask(*calls, defect_set(0, 10), defect_set(1, 10))
        self.assertEqual([[-6], [-6], [18, 3, 10, 12, 14, 29, 30, 31], [27, 1, 13, 40]], given[10:])

    def test_lifted_by_the_chief(self):
        self.assertEqual([0, 0], last(*TOLD, lift(0, 0, WHOLE), defect_set(0, 11)))

    def test_refusals_in_their_order(self):
        for n in (-FAR, -1, 101, FAR):
            with self.subTest(n=n):
                self.refused(-1, *TOLD, defect_set(0, n))
                self.refused(-1, *TOLD, defect_set(2, n))
        for d in (-FAR, -1, 2, 8, FAR):
            with self.subTest(d=d):
                self.refused(-2, *TOLD, defect_set(d, 10))
                self.refused(-2, *TOLD, defect_set(d, 11))
        self.refused(-7, *TOLD, defect_set(0, 11))
        self.refused(-7, *TOLD, defect_set(1, 100))


class OwnersTest(HouseTest):
    def test_as_of_each_place(self):
        given = ask(*TOLD, *[owners(n) for n in range(11)])[10:]
        self.assertEqual([[2, -1, -1]] + [[2, 3, -1]] * 4 + [[2, 3, 0]] * 2 + [[2, 5, 0]] * 4, given)

    def test_no_defect(self):
        self.assertEqual([[0], [1], [0], [0]], ask(owners(0), meter(1, 1), owners(0), owners(1)))

    def test_owners_told_anew(self):
        calls = [defect("a", 3), defect("b", 9), owner(0, 3, 4), owner(1, 0, 3), owner(0, 4, 3), owner(0, 0, 0)]
        given = ask(*calls, *[owners(n) for n in range(7)])[6:]
        wanted = [[-1, -1], [3, -1], [3, 9], [4, 9], [4, 3], [3, 3], [0, 3]]
        self.assertEqual([[2, *roles] for roles in wanted], given)

    def test_how_many_is_of_now(self):
        calls = [defect("a", 3), owners(1), defect("b", 4), owners(1), owners(2)]
        self.assertEqual([[0, 1], [1, 3], [1, 2], [2, 3, -1], [2, 3, 4]], ask(*calls))

    def test_8_defects(self):
        calls = [defect(name, 9 - at) for at, name in enumerate("abcdefgh")]
        self.assertEqual([8, 9, 8, 7, 6, 5, 4, 3, 2], last(*calls, owners(8)))
        self.assertEqual([8, 9, 8, 7, -1, -1, -1, -1, -1], last(*calls, owners(3)))

    def test_a_refused_owner_is_none(self):
        calls = [*TOLD, owner(0, 3, 3), owner(1, 5, 5), owner(0, 5, 10), defect("a", 9)]
        self.assertEqual([2, 5, 0], last(*calls, owners(10)))

    def test_lift_is_let_just_to_the_owner_of_then_and_the_chief(self):
        calls = [defect("a", 3), owner(0, 3, 5), owner(0, 5, 3), owner(0, 0, 7)]
        for n in range(1, 5):
            role = last(*calls[:n], owners(n))[1]
            given = ask(*calls[:n], *[lift(0, by, (1, 2)) for by in range(10)])[n:]
            with self.subTest(n=n):
                self.assertEqual({0, role}, {by for by in range(10) if given[by] != [-6]})

    def test_refusals_in_their_order(self):
        for n in (-FAR, -1, 101, FAR):
            with self.subTest(n=n):
                self.refused(-1, *TOLD, owners(n))
        self.refused(-7, *TOLD, owners(11))
        self.refused(-7, *TOLD, owners(100))
        self.refused(-7, owners(1))


class ChangedTest(HouseTest):
    def between(self, pairs, m, n, i=1):
        """The blocks that changed between two places: both ways round."""
        self.good_pairs(pairs, *TOLD, changed(i, m, n))
        self.good_pairs(pairs, *TOLD, changed(i, n, m))

    def test_places_alike(self):
        for n in range(11):
            with self.subTest(n=n):
                self.assertEqual([0, 0], last(*TOLD, changed(1, n, n)))

    def test_both_ways_round(self):
        self.between([(10, 30)], 1, 2)
        self.between([(12, 14)], 2, 4)
        self.between([(14, 30)], 5, 6)
        self.between([], 6, 8)
        self.between([], 9, 10)
        self.between([(10, 12)], 0, 10)

    def test_of_a_rule_told_later(self):
        self.between([(10, 12), (14, 29), (30, 31)], 1, 10, i=0)
        self.between([(28, 29), (30, 31)], 8, 10, i=0)

    def test_size_count_and_pairs(self):
        self.assertEqual([2, 2, 28, 29, 30, 31], last(*TOLD, changed(0, 10, 8)))

    def test_blocks_let_as_of_one_alone_in_both_directions(self):
        calls = [defect("a"), rule("a"), set_on(0, (10, 20)), lift(0, 0, (10, 15)), set_on(0, (30, 40))]
        for m, n in ((3, 5), (5, 3)):
            self.assertEqual([15, 2, 10, 15, 30, 40], last(*calls, changed(0, m, n)))

    def test_what_went_and_what_came_touch_and_are_one_pair(self):
        calls = [defect("a"), rule("a"), set_on(0, (10, 20)), lift(0, 0, (10, 20)), set_on(0, (20, 30))]
        for m, n in ((3, 5), (5, 3)):
            self.assertEqual([20, 1, 10, 30], last(*calls, changed(0, m, n)))

    def test_long_makes_others_change(self):
        calls = [defect("a"), rule("long 10 not a"), set_on(0, (100, 9990)), set_on(0, (50, 51), (9995, 9996))]
        self.assertEqual([11, 2, 50, 51, 9990, 10000], last(*calls, changed(0, 3, 4)))

    def test_all_blocks(self):
        calls = [defect("a"), rule("not a"), set_on(0, WHOLE)]
        self.assertEqual([10000, 1, 0, 10000], last(*calls, changed(0, 3, 0)))
        self.assertEqual([10000, 1, 0, 10000], last(*calls, changed(0, 2, 3)))

    def test_just_where_good_is_not_the_same(self):
        for m in range(11):
            for n in range(11):
                answers = ask(*TOLD, good(1, m), good(1, n), changed(1, m, n))[10:]
                one, other, given = [self.members(answer) for answer in answers]
                self.assertEqual(one ^ other, given, (m, n))

    def members(self, answer):
        return {b for start, end in pairs_in(answer) for b in range(start, end)}

    def test_refusals_in_their_order(self):
        for wrong in (-FAR, -1, 101, FAR):
            with self.subTest(wrong=wrong):
                self.refused(-1, *TOLD, changed(0, wrong, 3))
                self.refused(-1, *TOLD, changed(0, 3, wrong))
                self.refused(-1, *TOLD, changed(2, 11, wrong))
                self.refused(-1, *TOLD, changed(2, wrong, 11))
        for i in (-FAR, -1, 2, 10, FAR):
            with self.subTest(i=i):
                self.refused(-2, *TOLD, changed(i, 3, 4))
                self.refused(-2, *TOLD, changed(i, 11, 3))
        for m, n in ((11, 3), (3, 11), (100, 100), (11, 10), (10, 11)):
            with self.subTest(m=m, n=n):
                self.refused(-7, *TOLD, changed(0, m, n))


class CountsTest(HouseTest):
    def test_nothing_told(self):
        self.assertEqual([0] * 7, last(counts()))

    def test_one_by_one(self):
        tellings = [
            (defect("a", 3), [1, 1, 0, 0, 0, 0, 0]),
            (owner(0, 3, 5), [2, 1, 0, 0, 0, 0, 0]),
            (set_on(0, (1, 2)), [3, 1, 1, 0, 0, 0, 0]),
            (lift(0, 5, (1, 2)), [4, 1, 2, 0, 0, 0, 0]),
            (meter(1, 1, (1, 2)), [5, 1, 2, 1, 0, 0, 0]),
            (live(1, 1, 1, (1, 2)), [6, 1, 2, 1, 1, 0, 0]),
            (scale(0, 1, 1, (1, 2)), [7, 1, 2, 1, 1, 1, 0]),
            (scale(3, 1, 1), [8, 1, 2, 1, 1, 2, 0]),
            (rule("a"), [9, 1, 2, 1, 1, 2, 1]),
            (lift(0, 0), [10, 1, 3, 1, 1, 2, 1]),
            (live(1, 0, 1), [11, 1, 3, 1, 2, 2, 1]),
            (meter(1, 1), [12, 1, 3, 2, 2, 2, 1]),
            (defect("b", 3), [13, 2, 3, 2, 2, 2, 1]),
        ]
        calls = []
        wanted = []
        for telling, numbers in tellings:
            calls += [telling, counts()]
            wanted.append(numbers)
        self.assertEqual(wanted, ask(*calls)[1::2])

    def test_after_refused_calls(self):
        refused = [
            (-3, defect("a")),
            (-1, defect("")),
            (-6, owner(0, 3, 3)),
            (-2, set_on(2, (1, 2))),
            (-1, set_on(0, (2, 2))),
            (-6, lift(0, 3, (1, 2))),
            (-1, meter(0, 1)),
            (-1, live(1, 2, 1)),
            (-1, scale(4, 1, 1)),
            (-3000, rule("c")),
            (-2, good(2, 1)),
            (-7, good(0, 11)),
        ]
        for code, call in refused:
            with self.subTest(call=call):
                self.assertEqual([[code], [10, 2, 5, 0, 0, 0, 2]], ask(*TOLD, call, counts())[10:])

    def test_after_asking(self):
        asking = [shown(0), good(0, 10), lumi(0, 0, 10), defect_set(0, 3), owners(2), changed(0, 1, 2), counts()]
        self.assertEqual([10, 2, 5, 0, 0, 0, 2], last(*TOLD, *asking, counts()))

    def test_100_writings_and_more_that_are_refused(self):
        calls = [*TOLD, *[meter(1, 1)] * 90, meter(1, 1), rule("a"), set_on(0, (1, 2))]
        self.assertEqual([100, 2, 5, 90, 0, 0, 2], last(*calls, counts()))

    def test_no_room_for_defects_and_rules(self):
        calls = [defect(name) for name in "abcdefghi"] + [rule("all")] * 11
        self.assertEqual([18, 8, 0, 0, 0, 0, 10], last(*calls, counts()))


if __name__ == "__main__":
    unittest.main()

"""meter, live, scale, lumi: what counts for a block, what it is worth, and the sum."""

import unittest
from fractions import Fraction

from tests.support import FAR, HouseTest, ask, defect, good, last, lift, live, lumi, meter, rule, scale, set_on

WHOLE = (0, 10000)


class NumbersTest(HouseTest):
    def test_places(self):
        calls = [meter(1, 5, (1, 2)), live(1, 1, 2, (1, 2)), scale(0, 1, 3, (1, 2)), meter(1, 5)]
        self.assertEqual([[1], [2], [3], [4]], ask(*calls))

    def test_versions(self):
        for version in (1, 2, 9998, 9999):
            with self.subTest(version=version):
                self.assertEqual([[1], [2], [3]], ask(meter(version, 5), live(version, 1, 2), scale(0, version, 3)))
        for version in (-FAR, -1, 0, 10000, FAR):
            with self.subTest(version=version):
                self.assertEqual([[-1]] * 3, ask(meter(version, 5), live(version, 1, 2), scale(0, version, 3)))

    def test_meter_values(self):
        self.assertEqual([[1], [2]], ask(meter(1, 0, WHOLE), meter(1, 9999, WHOLE)))
        for v in (-FAR, -1, 10000, FAR):
            with self.subTest(v=v):
                self.refused(-1, meter(1, v, WHOLE))

    def test_live_fractions(self):
        self.assertEqual([[1], [2], [3], [4]], ask(live(1, 0, 1), live(1, 1, 1), live(1, 0, 1000), live(1, 1000, 1000)))
        wrong = ((0, 0), (1, 0), (2, 1), (-1, 1), (1001, 1001), (0, 1001), (1001, 1000), (0, -1), (-1, -1), (-5, -3),
                 (FAR, FAR), (-FAR, 5), (5, FAR), (0, -FAR))
        for a, b in wrong:
            with self.subTest(a=a, b=b):
                self.refused(-1, live(1, a, b))

    def test_scales(self):
        self.assertEqual([[1], [2], [3]], ask(scale(0, 1, 1), scale(3, 1, 1000), scale(1, 1, 7)))
        for p in (-FAR, -1, 0, 1001, FAR):
            with self.subTest(p=p):
                self.refused(-1, scale(0, 1, p))

    def test_chains(self):
        for k in (-FAR, -1, 4, FAR):
            with self.subTest(k=k):
                self.refused(-1, scale(k, 1, 1))
                self.refused(-1, rule("all"), lumi(0, k, 0))


class CountsTest(HouseTest):
    """What counts: each of the three is told twice, and the worth of block 5 shows which one it is."""

    BASE = [defect("a"), set_on(0, (5, 6)), rule("a")]

    def worth(self, *calls):
        answer = last(*self.BASE, *calls, lumi(0, 0, 3 + len(calls)))
        self.assertEqual([1, 0], answer[2:])
        return Fraction(answer[0], answer[1])

    def with_meters(self, *meters):
        return self.worth(*meters, live(1, 1, 1, WHOLE), scale(0, 1, 1, WHOLE))

    def with_lives(self, *lives):
        return self.worth(meter(1, 9000, WHOLE), *lives, scale(0, 1, 1, WHOLE))

    def with_scales(self, *scales):
        return self.worth(meter(1, 9000, WHOLE), live(1, 1, 1, WHOLE), *scales)

    def test_greatest_version_of_meters(self):
        self.assertEqual(3, self.with_meters(meter(2, 3, WHOLE), meter(1, 8, WHOLE)))
        self.assertEqual(3, self.with_meters(meter(1, 8, WHOLE), meter(2, 3, WHOLE)))
        self.assertEqual(3, self.with_meters(meter(1, 8, WHOLE), meter(9999, 3, WHOLE), meter(9998, 7, WHOLE)))
        self.assertEqual(0, self.with_meters(meter(1, 8, WHOLE), meter(2, 0, WHOLE)))

    def test_greatest_value_of_one_version_of_meters(self):
        self.assertEqual(8, self.with_meters(meter(2, 3, WHOLE), meter(2, 8, WHOLE)))
        self.assertEqual(8, self.with_meters(meter(2, 8, WHOLE), meter(2, 3, WHOLE)))
        self.assertEqual(8, self.with_meters(meter(2, 8, WHOLE), meter(2, 8, WHOLE)))

    def test_a_version_that_does_not_speak_of_the_block(self):
        self.assertEqual(8, self.with_meters(meter(1, 8, (5, 6)), meter(2, 3, (0, 5), (6, 10000))))
        self.assertEqual(8, self.with_meters(meter(2, 3), meter(1, 8, (5, 6))))

    def test_greatest_version_of_lives(self):
        self.assertEqual(3000, self.with_lives(live(2, 1, 3, WHOLE), live(1, 1, 2, WHOLE)))
        self.assertEqual(3000, self.with_lives(live(1, 1, 1, WHOLE), live(9999, 1, 3, WHOLE)))

    def test_live_fractions_first_by_a(self):
        self.assertEqual(Fraction(9000 * 2, 1000), self.with_lives(live(1, 1, 1, WHOLE), live(1, 2, 1000, WHOLE)))
        self.assertEqual(Fraction(9000 * 2, 1000), self.with_lives(live(1, 2, 1000, WHOLE), live(1, 1, 1, WHOLE)))

    def test_live_fractions_then_by_b(self):
        self.assertEqual(9, self.with_lives(live(1, 1, 2, WHOLE), live(1, 1, 1000, WHOLE), live(1, 1, 3, WHOLE)))
        self.assertEqual(0, self.with_lives(live(1, 0, 2, WHOLE), live(1, 0, 1000, WHOLE)))

    def test_greatest_version_of_scales(self):
        self.assertEqual(3000, self.with_scales(scale(0, 2, 3, WHOLE), scale(0, 1, 9, WHOLE)))
        self.assertEqual(3000, self.with_scales(scale(0, 9998, 9, WHOLE), scale(0, 9999, 3, WHOLE)))

    def test_greatest_value_of_one_version_of_scales(self):
        self.assertEqual(1000, self.with_scales(scale(0, 2, 3, WHOLE), scale(0, 2, 9, WHOLE)))
        self.assertEqual(1000, self.with_scales(scale(0, 2, 9, WHOLE), scale(0, 2, 3, WHOLE)))

    def test_scales_of_other_chains(self):
        self.assertEqual(3000, self.with_scales(scale(0, 1, 3, WHOLE), scale(1, 2, 9, WHOLE), scale(3, 2, 5, WHOLE)))

    def test_meters_lives_and_scales_apart(self):
        worth = self.worth(meter(1, 12, WHOLE), live(9, 2, 3, WHOLE), scale(0, 5, 4, WHOLE), meter(2, 30, WHOLE))
        self.assertEqual(5, worth)


class LumiTest(HouseTest):
    TOLD = [
        defect("a"),
        set_on(0, (0, 10)),
        meter(1, 12, (0, 100)),
        live(1, 2, 3, (0, 90)),
        scale(0, 1, 5, (0, 100)),
        scale(1, 1, 7, (2, 8)),
        rule("a"),
        rule("not a"),
        rule("all"),
    ]

    def test_sum_size_and_lacking(self):
        self.assertEqual([16, 1, 10, 0], last(*self.TOLD, lumi(0, 0, 9)))
        self.assertEqual([128, 1, 9990, 9910], last(*self.TOLD, lumi(1, 0, 9)))
        self.assertEqual([144, 1, 10000, 9910], last(*self.TOLD, lumi(2, 0, 9)))

    def test_lowest_terms(self):
        self.assertEqual([48, 7, 10, 4], last(*self.TOLD, lumi(0, 1, 9)))
        self.assertEqual([8, 5, 1, 0], last(*self.TOLD, lift(0, 0, (1, 10)), lumi(0, 0, 10)))

    def test_chain_without_a_scale(self):
        self.assertEqual([0, 1, 10, 10], last(*self.TOLD, lumi(0, 2, 9)))
        self.assertEqual([0, 1, 10, 10], last(*self.TOLD, lumi(0, 3, 9)))

    def test_no_good_block(self):
        self.assertEqual([0, 1, 0, 0], last(*self.TOLD, lift(0, 0, WHOLE), lumi(0, 0, 10)))

    def test_nothing_told(self):
        self.assertEqual([0, 1, 10000, 10000], last(rule("all"), lumi(0, 0, 0)))

    def test_worth_0_does_not_lack(self):
        calls = [rule("all"), meter(1, 0, (0, 4)), live(1, 1, 3, (0, 4)), scale(0, 1, 7, (0, 4))]
        self.assertEqual([0, 1, 10000, 9996], last(*calls, lumi(0, 0, 4)))
        calls = [rule("all"), meter(1, 5, (0, 4)), live(1, 0, 3, (0, 4)), scale(0, 1, 7, (0, 4))]
        self.assertEqual([0, 1, 10000, 9996], last(*calls, lumi(0, 0, 4)))

    def test_each_of_the_three_may_lack(self):
        told = [meter(1, 5, WHOLE), live(1, 1, 1, WHOLE), scale(0, 1, 1, WHOLE)]
        for gone in range(3):
            calls = [rule("all")] + [call for at, call in enumerate(told) if at != gone]
            with self.subTest(gone=gone):
                self.assertEqual([0, 1, 10000, 10000], last(*calls, lumi(0, 0, 3)))
        self.assertEqual([50000, 1, 10000, 0], last(rule("all"), *told, lumi(0, 0, 4)))

    def test_first_and_last_block(self):
        ends = ((0, 1), (9999, 10000))
        calls = [rule("all"), meter(1, 9999, *ends), live(1, 999, 1000, *ends), scale(0, 1, 1000, *ends)]
        wanted = Fraction(2 * 9999 * 999, 1000 * 1000)
        self.assertEqual([wanted.numerator, wanted.denominator, 10000, 9998], last(*calls, lumi(0, 0, 4)))

    def test_as_of_earlier_places_of_a_rule_told_later(self):
        given = ask(*self.TOLD, meter(2, 24, (0, 5)), *[lumi(0, 0, n) for n in range(11)])[-11:]
        wanted = [[0, 1, 0, 0]] * 2 + [[0, 1, 10, 10]] * 3 + [[16, 1, 10, 0]] * 5 + [[24, 1, 10, 0]]
        self.assertEqual(wanted, given)

    def test_what_is_told_as_of_a_place_never_changes(self):
        asking = [lumi(i, k, n) for i in range(3) for k in range(4) for n in (0, 4, 6, 9)]
        before = ask(*self.TOLD, *asking)[-len(asking):]
        later = [meter(9, 1, WHOLE), live(9, 0, 1, WHOLE), scale(0, 9, 2, WHOLE), scale(2, 9, 2, WHOLE)]
        later.append(set_on(0, WHOLE))
        self.assertEqual(before, ask(*self.TOLD, *later, *asking)[-len(asking):])

    def test_cut_in_two_adds_up(self):
        calls = [*self.TOLD, defect("b"), set_on(1, (3, 7), (50, 95)), rule("both a b"), rule("both a not b")]
        whole, one, other = ask(*calls, lumi(0, 0, 13), lumi(3, 0, 13), lumi(4, 0, 13))[-3:]
        self.assertEqual(Fraction(*whole[:2]), Fraction(*one[:2]) + Fraction(*other[:2]))
        self.assertEqual(whole[2:], [one[2] + other[2], one[3] + other[3]])

    def test_many_belows(self):
        """Prime belows on single blocks: the sum's below has over a hundred digits."""
        primes = [p for p in range(700, 1000) if all(p % q for q in range(2, 32))][:40]
        calls = [rule("all"), meter(1, 9999, WHOLE), scale(0, 1, 1, WHOLE)]
        calls += [live(1, 1 + at, p, (at, at + 1)) for at, p in enumerate(primes)]
        wanted = sum(Fraction(9999 * (1 + at), p) for at, p in enumerate(primes))
        answer = last(*calls, lumi(0, 0, 43))
        self.assertEqual([wanted.numerator, wanted.denominator, 10000, 9960], answer)
        self.assertGreater(len(str(answer[1])), 100)

    def test_agrees_with_good(self):
        calls = [*self.TOLD, rule("long 20 not a")]
        size = last(*calls, good(3, 10))[0]
        self.assertEqual(size, last(*calls, lumi(3, 0, 10))[2])

    def test_n_out_of_its_range(self):
        for n in (-FAR, -1, 101, FAR):
            with self.subTest(n=n):
                self.refused(-1, rule("all"), lumi(0, 0, n))

    def test_not_so_many_writings_yet(self):
        for n in (2, 99, 100):
            with self.subTest(n=n):
                self.refused(-7, rule("all"), lumi(0, 3, n))

    def test_no_such_rule(self):
        for i in (-FAR, -1, 1, 10, FAR):
            with self.subTest(i=i):
                self.refused(-2, rule("all"), lumi(i, 0, 1))

    def test_order_of_refusals(self):
        self.refused(-1, lumi(0, 4, 0))
        self.refused(-1, lumi(0, 0, 101))
        self.refused(-1, rule("all"), lumi(0, -1, 100))
        self.refused(-2, lumi(0, 0, 100))
        self.refused(-2, rule("all"), lumi(-1, 0, 2))


if __name__ == "__main__":
    unittest.main()

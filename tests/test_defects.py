"""defect, owner: names, numbers, roles, and who may tell a new owner."""

import unittest

from tests.support import FAR, HouseTest, ask, defect, last, lift, owner, rule, set_on, with_row

EIGHT = ("a", "b", "c", "d", "e", "f", "g", "h")


class DefectTest(HouseTest):
    def test_numbers_and_places_rise(self):
        self.assertEqual([[0, 1], [1, 2], [2, 3]], ask(defect("noise", 3), defect("hv", 0), defect("trip", 9)))

    def test_place_counts_other_writings_too(self):
        self.assertEqual([1, 3], last(defect("noise"), set_on(0, (3, 4)), defect("hv")))

    def test_names_of_1_and_8_letters(self):
        self.assertEqual([[0, 1], [1, 2]], ask(defect("z"), defect("azazazaz")))

    def test_names_of_0_and_9_letters_are_not_as_told(self):
        self.refused(-1, defect(""))
        self.refused(-1, defect("abcdefghi"))

    def test_letters_a_to_z_alone(self):
        for name in ("A", "aB", "a1", "1", "a b", " a", "a ", "`", "{", "a_"):
            with self.subTest(name=name):
                self.refused(-1, defect(name))

    def test_numbers_that_are_no_letters(self):
        for number in (-FAR, -1, 0, 96, 123, 256, 97 + 256, FAR):
            with self.subTest(number=number):
                self.refused(-1, defect([97, number]))

    def test_the_rules_words_are_no_names(self):
        for name in ("all", "not", "both", "either", "long"):
            with self.subTest(name=name):
                self.refused(-1, defect(name))

    def test_names_that_only_begin_like_the_rules_words(self):
        names = ("alls", "al", "nots", "bot", "eithers", "longer", "lon")
        self.assertEqual([[d, d + 1] for d in range(7)], ask(*[defect(name) for name in names]))

    def test_row_of_400_numbers(self):
        self.refused(-1, defect([97] * 400))

    def test_roles(self):
        for role in (-FAR, -1, 10, FAR):
            with self.subTest(role=role):
                self.refused(-1, defect("a", role))
        self.assertEqual([[0, 1], [1, 2]], ask(defect("a", 0), defect("b", 9)))

    def test_name_is_told(self):
        self.refused(-3, defect("noise", 1), defect("hv", 1), defect("noise", 2))

    def test_eighth_and_ninth(self):
        given = ask(*[defect(name) for name in EIGHT], defect("i"))
        self.assertEqual([7, 8], given[7])
        self.assertEqual([-8], given[8])

    def test_told_name_goes_ahead_of_no_room(self):
        self.refused(-3, *[defect(name) for name in EIGHT], defect("c"))

    def test_not_as_told_goes_ahead_of_all(self):
        eight = [defect(name) for name in EIGHT]
        self.refused(-1, *eight, defect("a", 10))
        self.refused(-1, *eight, defect("all"))


class OwnerTest(HouseTest):
    def test_owner_hands_on(self):
        self.assertEqual([2], last(defect("a", 3), owner(0, 3, 5)))

    def test_chief_may(self):
        self.assertEqual([[0, 1], [2], [3]], ask(defect("a", 3), owner(0, 0, 5), owner(0, 0, 6)))

    def test_others_may_not(self):
        for by in (1, 2, 4, 9):
            with self.subTest(by=by):
                self.refused(-6, defect("a", 3), owner(0, by, by))

    def test_owner_of_then_may_not_any_more(self):
        self.refused(-6, defect("a", 3), owner(0, 3, 5), owner(0, 3, 3))

    def test_new_owner_may(self):
        self.assertEqual([3], last(defect("a", 3), owner(0, 3, 5), owner(0, 5, 3)))

    def test_the_last_owner_told_counts(self):
        calls = [defect("a", 3), owner(0, 3, 5), owner(0, 5, 7)]
        self.refused(-6, *calls, owner(0, 5, 1))
        self.assertEqual([4], last(*calls, owner(0, 7, 1)))

    def test_each_defect_has_its_own_owner(self):
        calls = [defect("a", 3), defect("b", 4), owner(0, 3, 5)]
        self.refused(-6, *calls, owner(1, 3, 1))
        self.refused(-6, *calls, owner(1, 5, 1))
        self.assertEqual([4], last(*calls, owner(1, 4, 1)))

    def test_chief_as_owner(self):
        self.refused(-6, defect("a", 0), owner(0, 1, 1))
        self.assertEqual([[0, 1], [2], [3]], ask(defect("a", 9), owner(0, 9, 0), owner(0, 0, 9)))

    def test_owner_told_anew_as_it_was(self):
        self.assertEqual([[0, 1], [2], [3]], ask(defect("a", 3), owner(0, 3, 3), owner(0, 3, 3)))

    def test_roles_out_of_range(self):
        for wrong in (-FAR, -1, 10, FAR):
            with self.subTest(wrong=wrong):
                self.refused(-1, defect("a", 3), owner(0, wrong, 3))
                self.refused(-1, defect("a", 3), owner(0, 3, wrong))

    def test_no_such_defect(self):
        self.refused(-2, owner(0, 0, 0))
        for d in (-FAR, -1, 1, 8, FAR):
            with self.subTest(d=d):
                self.refused(-2, defect("a", 3), owner(d, 0, 1))

    def test_order_of_refusals(self):
        self.refused(-1, owner(5, 10, 0))
        self.refused(-1, owner(5, 0, 10))
        self.refused(-1, defect("a", 3), owner(0, 4, 10))
        self.refused(-2, defect("a", 3), owner(1, 4, 4))


class LiftRightTest(HouseTest):
    def test_owner_and_chief_lift(self):
        for by in (3, 0):
            with self.subTest(by=by):
                self.assertEqual([3], last(defect("a", 3), set_on(0, (1, 5)), lift(0, by, (2, 3))))

    def test_others_may_not(self):
        for by in (1, 2, 4, 9):
            with self.subTest(by=by):
                self.refused(-6, defect("a", 3), set_on(0, (1, 5)), lift(0, by, (2, 3)))

    def test_owner_of_now_alone(self):
        calls = [defect("a", 3), set_on(0, (1, 5)), owner(0, 3, 4)]
        self.refused(-6, *calls, lift(0, 3, (2, 3)))
        self.assertEqual([4], last(*calls, lift(0, 4, (2, 3))))
        self.assertEqual([4], last(*calls, lift(0, 0, (2, 3))))

    def test_owner_told_by_a_refused_call_is_none(self):
        calls = [defect("a", 3), owner(0, 4, 4), rule("a")]
        self.refused(-6, *calls, lift(0, 4, (2, 3)))
        self.assertEqual([3], last(*calls, lift(0, 3, (2, 3))))

    def test_roles_out_of_range(self):
        for by in (-FAR, -1, 10, FAR):
            with self.subTest(by=by):
                self.refused(-1, defect("a", 3), lift(0, by, (2, 3)))

    def test_no_such_defect(self):
        for d in (-FAR, -1, 1, 8, FAR):
            with self.subTest(d=d):
                self.refused(-2, defect("a", 3), lift(d, 0, (1, 2)))

    def test_order_of_refusals(self):
        self.refused(-1, lift(0, 10, (1, 2)))
        self.refused(-1, lift(0, 0, (2, 2)))
        self.refused(-1, defect("a", 3), lift(0, 4, (2, 2)))
        self.refused(-2, defect("a", 3), lift(1, 4, (1, 2)))
        self.refused(-1, defect("a", 3), with_row(3, [0, 4], [1]))


if __name__ == "__main__":
    unittest.main()

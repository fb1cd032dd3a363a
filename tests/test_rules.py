"""rule, shown, good: texts, their faults with kind and place, and what rules let."""

import unittest

from tests.support import FAR, HouseTest, ask, defect, good, last, lift, owner, pairs_in, rule, set_on
from tests.support import shown, shown_text

BEGINNING = [defect("a"), defect("bb"), defect("eighteen")]


class TextTest(HouseTest):
    def kept(self, text, words=None):
        """The text is taken, and shown as its one text."""
        given = ask(*BEGINNING, rule(text), shown(0))
        self.assertEqual([0, 4], given[3], text)
        self.assertEqual(text if words is None else words, shown_text(given[4]))

    def fault(self, kind, place, text):
        self.assertEqual([-1000 * kind - place], last(*BEGINNING, rule(text)), text)

    def test_every_form(self):
        for text in ("all", "a", "bb", "eighteen", "not a", "both a bb", "either all bb", "long 3 a",
                     "not both either a bb long 20 not all", "both long 1 a long 2 bb"):
            with self.subTest(text=text):
                self.kept(text)

    def test_shown_counts_bytes(self):
        self.assertEqual([5, 110, 111, 116, 32, 97], last(*BEGINNING, rule("not a"), shown(0)))

    def test_blanks(self):
        self.kept("  both  a   bb ", "both a bb")
        self.kept(" all", "all")
        self.kept("all    ", "all")

    def test_numbers_rise(self):
        given = ask(*BEGINNING, rule("a"), set_on(0, (1, 2)), rule("not a"), shown(1), shown(0))
        self.assertEqual([[0, 4], [5], [1, 6]], given[3:6])
        self.assertEqual(["not a", "a"], [shown_text(answer) for answer in given[6:]])

    def test_alike_rules_may_be_told(self):
        self.assertEqual([1, 5], last(*BEGINNING, rule("a"), rule("a")))

    def test_text_of_0_bytes_lacks_a_word(self):
        self.fault(1, 0, "")

    def test_text_of_blanks_lacks_a_word_at_its_end(self):
        self.fault(1, 1, " ")
        self.fault(1, 200, " " * 200)

    def test_texts_of_200_and_201_bytes(self):
        self.kept("all" + " " * 197, "all")
        self.kept(" " * 199 + "a", "a")
        self.refused(-1, *BEGINNING, rule("all" + " " * 198))

    def test_200_bytes_full_of_words(self):
        four = "either either eighteen eighteen either eighteen eighteen"
        text = "not long 20 not both both " + four + " " + four + " not " + four
        self.assertEqual(200, len(text))
        self.kept(text)
        self.refused(-1, *BEGINNING, rule(text + " "))

    def test_words_lack_at_the_texts_end(self):
        for text in ("not", "both", "both a", "either", "either a", "either not a", "long", "long 3", "long 3 not",
                     "not ", "both a  ", "long 3 "):
            with self.subTest(text=text):
                self.fault(1, len(text), text)

    def test_nothing_behind_a_whole_rule(self):
        self.fault(1, 4, "all all")
        self.fault(1, 2, "a bb")
        self.fault(1, 10, "both a bb a")
        self.fault(1, 4, "all 3")
        self.fault(1, 5, "all  unknown")
        self.fault(1, 6, "not a long 99 a")

    def test_words_that_cannot_stand(self):
        for word in ("3", "0", "A", "All", "ALL", "a1", "1a", "-", "a-", "a,", "(a)", "ninelette", "allallall",
                     "a\n", "\ta"):
            with self.subTest(word=word):
                self.fault(1, 0, word)
                self.fault(1, 5, "both " + word + " a")
                self.fault(1, 7, "both a " + word)

    def test_bytes_beyond_letters(self):
        for byte in (0, 9, 10, 13, 31, 33, 47, 58, 64, 96, 123, 127, 128, 160, 255):
            with self.subTest(byte=byte):
                self.fault(1, 0, [byte])
                self.fault(1, 1, [32, 97, byte])
                self.fault(1, 2, [97, 32, byte])

    def test_numbers_that_are_none(self):
        for word in ("a", "all", "long", "00", "01", "020", "12345678", "+3", "-3", "3a", "3.", "0x3"):
            with self.subTest(word=word):
                self.fault(1, 5, "long " + word + " a")

    def test_n_in_its_range(self):
        for n in range(1, 21):
            self.kept("long " + str(n) + " a")

    def test_n_out_of_its_range(self):
        for word in ("0", "21", "99", "100", "1000000", "9999999"):
            with self.subTest(word=word):
                self.fault(2, 5, "long " + word + " a")
                self.fault(2, 10, "not  long " + word)

    def test_names_not_known(self):
        for word in ("b", "aa", "bbb", "eightee", "x", "zzzzzzzz", "allx"):
            with self.subTest(word=word):
                self.fault(3, 0, word)
                self.fault(3, 4, "not " + word)

    def test_a_name_is_known_once_it_is_told(self):
        given = ask(*BEGINNING, rule("late"), defect("late"), rule("late"))
        self.assertEqual([[-3000], [3, 4], [0, 5]], given[3:])

    def test_a_name_told_by_a_refused_call_is_not_known(self):
        self.refused(-3000, defect("late", 10), rule("late"))

    def test_7_and_8_around(self):
        self.kept("not " * 7 + "a")
        self.fault(4, 32, "not " * 8 + "a")
        self.kept("long 2 " * 7 + "a")
        self.fault(4, 56, "long 2 " * 8 + "a")
        self.kept("both " * 7 + "a" + " a" * 7)
        self.fault(4, 40, "both " * 8 + "a" + " a" * 8)
        self.kept("either a " * 7 + "a")
        self.fault(4, 70, "either a " * 8 + "a")

    def test_around_counts_one_within_another_alone(self):
        self.kept("both " + "not " * 6 + "a " + "not " * 6 + "a")
        self.fault(4, 59, "both " + "not " * 6 + "a " + "not " * 6 + "not a")
        self.kept("either either a a either either a a either a either a either a bb")

    def test_too_deep_goes_ahead_of_the_others_at_a_word(self):
        for word in ("unknown", "3", "A", "all", "not", "long", "ninelette"):
            with self.subTest(word=word):
                self.fault(4, 32, "not " * 8 + word)

    def test_n_is_not_too_deep(self):
        self.fault(4, 35, "not " * 7 + "long 3 a")
        self.fault(2, 33, "not " * 7 + "long 0 a")
        self.fault(1, 33, "not " * 7 + "long a a")

    def test_a_word_that_lacks_is_not_too_deep(self):
        self.fault(1, 32, "not " * 8)
        self.fault(1, 31, ("not " * 8).strip())

    def test_the_first_word_with_a_fault(self):
        self.fault(3, 5, "both x 3")
        self.fault(1, 5, "both 3 x")
        self.fault(2, 5, "long 0 x")
        self.fault(1, 5, "long x 0")
        self.fault(3, 7, "long 1 x not")
        self.fault(3, 5, "both x " + "not " * 9 + "a")
        self.fault(4, 33, "both " + "not " * 8 + "a x")
        self.fault(1, 2, "a x " + "not " * 9)

    def test_rows_that_are_no_text(self):
        for row in ([256], [-1], [FAR], [-FAR], [97, 32, 256], [97] * 201, [32] * 400, [FAR] * 400):
            with self.subTest(row=row[:3]):
                self.refused(-1, *BEGINNING, rule(row))

    def test_tenth_and_eleventh(self):
        given = ask(*[rule("all")] * 11, shown(9), shown(10))
        self.assertEqual([[9, 10], [-8]], given[9:11])
        self.assertEqual("all", shown_text(given[11]))
        self.assertEqual([-2], given[12])

    def test_faults_go_ahead_of_no_room(self):
        ten = [rule("all")] * 10
        self.refused(-3000, *ten, rule("x"))
        self.refused(-1003, *ten, rule("not"))
        self.refused(-1, *ten, rule([256]))

    def test_shown_of_no_such_rule(self):
        self.refused(-2, shown(0))
        for i in (-FAR, -1, 1, 10, FAR):
            with self.subTest(i=i):
                self.refused(-2, rule("all"), shown(i))


class GoodTest(HouseTest):
    TOLD = [defect("a"), defect("b"), set_on(0, (10, 30), (40, 41)), set_on(1, (20, 45), (100, 119))]

    def let(self, text, pairs):
        self.good_pairs(pairs, *self.TOLD, rule(text), good(0, 5))

    def test_all(self):
        self.let("all", [(0, 10000)])
        self.assertEqual([10000, 1, 0, 10000], last(rule("all"), good(0, 0)))

    def test_name(self):
        self.let("a", [(10, 30), (40, 41)])

    def test_not(self):
        self.let("not a", [(0, 10), (30, 40), (41, 10000)])
        self.let("not all", [])
        self.let("not not b", [(20, 45), (100, 119)])

    def test_not_at_the_ends(self):
        told = [defect("a"), set_on(0, (0, 1), (9999, 10000)), rule("not a"), rule("not not a")]
        self.good_pairs([(1, 9999)], *told, good(0, 4))
        self.good_pairs([(0, 1), (9999, 10000)], *told, good(1, 4))

    def test_both(self):
        self.let("both a b", [(20, 30), (40, 41)])
        self.let("both b a", [(20, 30), (40, 41)])
        self.let("both a not a", [])

    def test_either(self):
        self.let("either a b", [(10, 45), (100, 119)])
        self.let("either a not a", [(0, 10000)])
        self.let("either not b a", [(0, 30), (40, 41), (45, 100), (119, 10000)])

    def test_touching_sets_are_one_pair_in_either(self):
        told = [defect("a"), defect("b"), set_on(0, (1, 11)), set_on(1, (11, 21)), rule("either a b")]
        self.good_pairs([(1, 21)], *told, good(0, 5))
        self.good_pairs([(1, 21)], *told, rule("long 20 either b a"), good(1, 5))
        self.good_pairs([], *told, rule("either long 20 a long 20 b"), good(1, 5))

    def test_long(self):
        self.let("long 1 a", [(10, 30), (40, 41)])
        self.let("long 2 a", [(10, 30)])
        self.let("long 20 a", [(10, 30)])
        self.let("long 19 b", [(20, 45), (100, 119)])
        self.let("long 20 b", [(20, 45)])
        self.let("long 20 not all", [])

    def test_long_at_the_ends(self):
        told = [defect("a"), set_on(0, (0, 20), (9981, 10000)), rule("long 20 a"), rule("long 19 a")]
        self.good_pairs([(0, 20)], *told, good(0, 4))
        self.good_pairs([(0, 20), (9981, 10000)], *told, good(1, 4))

    def test_long_within_long(self):
        self.let("long 11 both long 20 a b", [])
        self.let("long 10 both long 20 a b", [(20, 30)])
        self.let("not long 11 not a", [(0, 41)])
        self.let("not long 10 not a", [(10, 30), (40, 41)])

    def test_two_longs_keep_their_own_n(self):
        self.let("either long 2 a long 20 b", [(10, 45)])
        self.let("either long 20 b long 1 both a b", [(20, 45)])
        self.let("both long 1 a not long 20 b", [(10, 20)])

    def test_two_parts_as_they_stand(self):
        self.let("both not a b", [(30, 40), (41, 45), (100, 119)])
        self.let("both a not b", [(10, 20)])

    def test_as_of_earlier_places_of_a_rule_told_later(self):
        calls = [*self.TOLD, lift(0, 0, (0, 15)), rule("either a not b")]
        given = ask(*calls, *[good(0, n) for n in range(7)])[6:]
        wanted = [
            [(0, 10000)],
            [(0, 10000)],
            [(0, 10000)],
            [(0, 10000)],
            [(0, 30), (40, 41), (45, 100), (119, 10000)],
            [(0, 30), (40, 41), (45, 100), (119, 10000)],
            [(0, 30), (40, 41), (45, 100), (119, 10000)],
        ]
        self.assertEqual(wanted, [pairs_in(answer) for answer in given])

    def test_what_is_told_as_of_a_place_never_changes(self):
        calls = [*self.TOLD, rule("both a not b")]
        before = ask(*calls, *[good(0, n) for n in range(6)])[-6:]
        later = [set_on(0, (0, 10000)), lift(1, 0, (0, 10000)), owner(0, 0, 5), defect("c"), rule("c")]
        self.assertEqual(before, ask(*calls, *later, *[good(0, n) for n in range(6)])[-6:])

    def test_n_out_of_its_range(self):
        for n in (-FAR, -1, 101, FAR):
            with self.subTest(n=n):
                self.refused(-1, rule("all"), good(0, n))

    def test_not_so_many_writings_yet(self):
        for n in (2, 99, 100):
            with self.subTest(n=n):
                self.refused(-7, rule("all"), good(0, n))

    def test_no_such_rule(self):
        for i in (-FAR, -1, 1, 10, FAR):
            with self.subTest(i=i):
                self.refused(-2, rule("all"), good(i, 1))

    def test_order_of_refusals(self):
        self.refused(-1, good(0, 101))
        self.refused(-1, rule("all"), good(FAR, -1))
        self.refused(-2, good(0, 100))
        self.refused(-2, rule("all"), good(1, 2))


if __name__ == "__main__":
    unittest.main()

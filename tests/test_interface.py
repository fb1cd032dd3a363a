"""goodblocks.house.answers: one list in, one list out, nothing changed, kept or printed."""

import contextlib
import io
import unittest

from goodblocks.house import answers
from tests.support import (
    FAR,
    alike,
    changed,
    counts,
    cut,
    defect,
    defect_set,
    flat,
    good,
    judge,
    lift,
    list_of,
    live,
    looks,
    lumi,
    meter,
    owner,
    owners,
    part,
    rule,
    scale,
    set_on,
    shown,
    worth,
)

EACH = [
    defect("a", 3),
    owner(0, 3, 4),
    set_on(0, (5, 9), (7, 20)),
    lift(0, 4, (10, 12)),
    meter(1, 6, (0, 10000)),
    live(1, 1, 4, (0, 10000)),
    scale(2, 1, 3, (0, 15)),
    rule(" both a  not a"),
    shown(0),
    rule("a"),
    good(1, 4),
    lumi(1, 2, 9),
]
# Behind EACH. By 9 rule 1 lets (5, 10) and (12, 20); (0, 15) are worth 6 / 4 / 3 = 1 / 2 for chain 2.
EACH_OTHER = [
    part(1, 2, 9, (8, 14), (0, 6)),
    list_of(1, 2, 9),
    judge(1, 2, 9, 4, 1, (5, 10, 1, 2), (12, 15, 1, 2)),
    judge(1, 2, 9, 4, 1, (5, 10, 1, 2)),
    defect_set(0, 3),
    owners(1),
    owners(0),
    alike(0, 1),
    alike(1, 1),
    looks(1),
    changed(1, 4, 3),
    worth(2, 9, 0),
    worth(2, 9, 15),
    counts(),
]
ROWS = ((0, 1), (2, 1), (3, 2), (4, 2), (5, 3), (6, 3), (7, 0), (11, 3), (13, 5))
LONG_ROWS = [[kind, *[FAR, -FAR, FAR, -FAR, FAR][:count], 400, *[-FAR, FAR] * 200] for kind, count in ROWS]
FAR_NUMBERS = [
    [kind, *[number] * count]
    for number in (-FAR, FAR)
    for kind, count in ((1, 3), (8, 1), (9, 2), (10, 3), (12, 3), (14, 2), (15, 1), (16, 2), (17, 1), (18, 3), (19, 3))
]
EVERY = EACH + EACH_OTHER + LONG_ROWS + FAR_NUMBERS


class AnswersTest(unittest.TestCase):
    def test_counts_stand_before_each_answer(self):
        text = list(b"both a not a")
        wanted = [2, 0, 1, 1, 2, 1, 3, 1, 4, 1, 5, 1, 6, 1, 7, 2, 0, 8, 13, 12, *text, 2, 1, 9]
        wanted += [6, 13, 2, 5, 10, 12, 20, 4, 4, 1, 13, 5]
        self.assertEqual(wanted, answers(flat(EACH)))

    def test_counts_stand_before_each_of_the_other_answers(self):
        wanted = [4, 5, 2, 5, 0]
        wanted += [9, 2, 5, 10, 1, 2, 12, 15, 1, 2]
        wanted += [2, 0, 0, 2, 1, 12]
        wanted += [4, 15, 1, 5, 20]
        wanted += [2, 1, 3, 2, 1, -1]
        wanted += [6, 0, 0, 0, 1, 1, 0, 1, 1]
        wanted += [3, 0, 1, 0]
        wanted += [4, 2, 1, 10, 12]
        wanted += [3, 1, 1, 2, 1, 0]
        wanted += [7, 9, 1, 2, 1, 1, 1, 2]
        self.assertEqual(wanted, answers(flat(EACH + EACH_OTHER))[len(answers(flat(EACH))):])

    def test_a_call_without_numbers(self):
        self.assertEqual([7, 0, 0, 0, 0, 0, 0, 0], answers([20]))
        self.assertEqual([7, 0, 0, 0, 0, 0, 0, 0] * 120, answers([20] * 120))

    def test_a_refusal_is_one_number(self):
        self.assertEqual([1, -2, 1, -3000], answers(shown(0) + rule("a")))

    def test_one_call(self):
        self.assertEqual([2, 0, 1], answers(rule("all")))

    def test_rows_are_read_by_their_count(self):
        """Numbers of a row that look like calls are none."""
        self.assertEqual([1, -1, 1, 1], answers([4, 0, 0, 4, 8, 0, 9, 0] + meter(1, 1)))
        self.assertEqual([1, 1, 1, 2], answers(meter(1, 1, (7, 8), (9, 10)) + meter(1, 1)))

    def test_list_handed_in_stays_as_it_was(self):
        calls = flat(EVERY)
        copy = list(calls)
        answers(calls)
        self.assertEqual(copy, calls)

    def test_nothing_is_kept(self):
        calls = flat(EVERY)
        self.assertEqual(answers(calls), answers(calls))
        self.assertEqual([1, -2], answers(shown(0)))

    def test_whole_numbers_in_a_list(self):
        given = answers(flat(EVERY))
        self.assertIs(list, type(given))
        self.assertEqual({int}, {type(number) for number in given})

    def test_far_numbers(self):
        self.assertEqual([[-1]] * 9, cut(answers(flat(LONG_ROWS))))
        wanted = [[-1], [-2], [-1], [-1], [-1], [-1], [-1], [-2], [-2], [-1], [-1]]
        self.assertEqual(wanted * 2, cut(answers(flat(FAR_NUMBERS))))

    def test_prints_nothing(self):
        said = io.StringIO()
        with contextlib.redirect_stdout(said), contextlib.redirect_stderr(said):
            answers(flat(EVERY))
        self.assertEqual("", said.getvalue())

    def test_a_long_line(self):
        """100 writings of 20 pairs each on single blocks, and 20 askings."""
        calls = [defect(name) for name in "abc"] + [rule("not both either a b c")]
        for at in range(32):
            ends = [(start, start + 1) for start in range(at * 2, 10000, 500)]
            calls += [meter(1 + at, at, *ends), live(1, 1, 900 + at, *ends), scale(0, 1, 700 + at, *ends)]
        calls += [lumi(0, 0, 100 - n) for n in range(20)]
        given = cut(answers(flat(calls)))
        self.assertEqual(120, len(given))
        self.assertEqual([10000, 10000 - 32 * 20], given[100][2:])

    def test_a_long_line_of_all_calls(self):
        """120 calls: 70 writings, 6 of alike, and every other asking again and again."""
        calls = [defect(name, 1 + d) for d, name in enumerate("abcd")]
        calls += [rule("not either a b"), rule("long 2 both c not a"), rule("long 3 either a b")]
        for at in range(9):
            ends = [(start, start + 3 + at) for start in range(at * 7, 10000, 500)]
            calls += [set_on(at % 4, *ends), meter(1 + at, 9 * at, *ends), live(1, 1, 1 + at, *ends)]
            calls += [set_on(3, *ends), scale(0, 1, 5 + at, (0, 9000), *ends[-2:]), owner(at % 4, 0, at)]
            calls.append(lift((at + 1) % 4, 0, *ends[:9]))
        asking = [part(0, 0, 40, (0, 700)), list_of(0, 0, 70), judge(0, 0, 70, 1, 2), defect_set(3, 60), owners(50)]
        asking += [alike(1, 1), looks(2), changed(0, 66, 20), worth(0, 70, 21), counts()]
        calls += asking * 4 + [alike(0, 2), alike(2, 1)] + asking[6:] + asking[:4]
        self.assertEqual(120, len(calls))
        given = cut(answers(flat(calls)))
        self.assertEqual(given[70:80], given[80:90])
        self.assertEqual([70, 4, 27, 9, 9, 9, 3], given[79])
        self.assertTrue(all(answer[0] >= 0 for answer in given[:110]), given)
        self.assertEqual([[0, 0, 0, 5], [-9]], [given[110][:4], given[111]])


if __name__ == "__main__":
    unittest.main()

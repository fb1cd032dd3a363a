"""goodblocks.house.answers: one list in, one list out, nothing changed, kept or printed."""

import contextlib
import io
import unittest

from goodblocks.house import answers
from tests.support import FAR, cut, defect, flat, good, live, lumi, meter, owner, rule, scale, set_on, shown

EACH = [
    defect("a", 3),
    owner(0, 3, 4),
    set_on(0, (5, 9), (7, 20)),
    [3, 0, 4, 2, 10, 12],
    meter(1, 6, (0, 10000)),
    live(1, 1, 4, (0, 10000)),
    scale(2, 1, 3, (0, 15)),
    rule(" both a  not a"),
    shown(0),
    rule("a"),
    good(1, 4),
    lumi(1, 2, 9),
]
LONG_ROWS = [[kind, *[FAR, -FAR, FAR][:count], 400, *[-FAR, FAR] * 200]
             for kind, count in ((0, 1), (2, 1), (3, 2), (4, 2), (5, 3), (6, 3), (7, 0))]
FAR_NUMBERS = [[kind, *[number] * count] for number in (-FAR, FAR) for kind, count in ((1, 3), (8, 1), (9, 2), (10, 3))]


class AnswersTest(unittest.TestCase):
    def test_counts_stand_before_each_answer(self):
        text = list(b"both a not a")
        wanted = [2, 0, 1, 1, 2, 1, 3, 1, 4, 1, 5, 1, 6, 1, 7, 2, 0, 8, 13, 12, *text, 2, 1, 9]
        wanted += [6, 13, 2, 5, 10, 12, 20, 4, 4, 1, 13, 5]
        self.assertEqual(wanted, answers(flat(EACH)))

    def test_a_refusal_is_one_number(self):
        self.assertEqual([1, -2, 1, -3000], answers(shown(0) + rule("a")))

    def test_one_call(self):
        self.assertEqual([2, 0, 1], answers(rule("all")))

    def test_rows_are_read_by_their_count(self):
        """Numbers of a row that look like calls are none."""
        self.assertEqual([1, -1, 1, 1], answers([4, 0, 0, 4, 8, 0, 9, 0] + meter(1, 1)))
        self.assertEqual([1, 1, 1, 2], answers(meter(1, 1, (7, 8), (9, 10)) + meter(1, 1)))

    def test_list_handed_in_stays_as_it_was(self):
        calls = flat(EACH + LONG_ROWS + FAR_NUMBERS)
        copy = list(calls)
        answers(calls)
        self.assertEqual(copy, calls)

    def test_nothing_is_kept(self):
        calls = flat(EACH)
        self.assertEqual(answers(calls), answers(calls))
        self.assertEqual([1, -2], answers(shown(0)))

    def test_whole_numbers_in_a_list(self):
        given = answers(flat(EACH + LONG_ROWS + FAR_NUMBERS))
        self.assertIs(list, type(given))
        self.assertEqual({int}, {type(number) for number in given})

    def test_far_numbers(self):
        self.assertEqual([[-1]] * 7, cut(answers(flat(LONG_ROWS))))
        self.assertEqual([[-1], [-2], [-1], [-1]] * 2, cut(answers(flat(FAR_NUMBERS))))

    def test_prints_nothing(self):
        said = io.StringIO()
        with contextlib.redirect_stdout(said), contextlib.redirect_stderr(said):
            answers(flat(EACH))
        self.assertEqual("", said.getvalue())

    def test_a_long_line(self):
        """100 writings of 20 pairs each on single blocks, and 20 askings."""
        calls = [defect(name) for name in "abc"] + [rule("not both either a b c")]
        for at in range(32):
            ends = [(start, start + 1) for start in range(at * 2, 10000, 500)]
            calls += [meter(1 + at, at, *ends), live(1, 1, 900 + at, *ends), scale(0, 1, 700 + at, *ends)]
        calls += [lumi(0, 0, 100 - n) for n in range(20)]
        given = cut(answers(flat(calls)))
        self.assertEqual(120, len(given))
        self.assertEqual([10000, 10000 - 32 * 20], given[100][2:])


if __name__ == "__main__":
    unittest.main()

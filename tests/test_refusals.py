"""The room for 100 writings, and that a refusal changes nothing."""

import unittest

from tests.support import (
    FAR,
    HouseTest,
    alike,
    ask,
    changed,
    counts,
    defect,
    defect_set,
    good,
    judge,
    last,
    lift,
    list_of,
    live,
    looks,
    lumi,
    meter,
    owner,
    owners,
    part,
    rule,
    scale,
    set_on,
    shown,
    with_row,
    worth,
)

WHOLE = (0, 10000)
TOLD = [
    defect("a", 3),
    defect("b", 4),
    set_on(0, (5, 50)),
    lift(0, 3, (10, 12)),
    owner(1, 4, 5),
    meter(3, 12, (0, 90)),
    live(3, 2, 3, (0, 80)),
    scale(0, 3, 5, (0, 70)),
    rule("not a"),
]
ONE_OF_EACH = [
    defect("c", 1),
    owner(0, 0, 7),
    set_on(0, (200, 300)),
    lift(0, 3, (20, 30)),
    meter(3, 20, (0, 90)),
    live(3, 3, 4, (0, 80)),
    scale(0, 3, 6, (0, 70)),
    rule("long 3 a"),
]

ASKINGS = [
    part(0, 0, 9, (3, 60)),
    list_of(0, 0, 9),
    judge(0, 0, 9, 1, 1, (0, 5, 8, 5)),
    defect_set(0, 9),
    owners(9),
    alike(0, 0),
    looks(0),
    changed(0, 2, 9),
    worth(0, 9, 5),
    counts(),
]


def probes(count):
    """Calls that show all that is kept by so many writings, and then who owns and what comes next."""
    asking = [shown(i) for i in range(4)]
    asking += [good(i, n) for i in range(3) for n in (0, 3, count, count + 1) if n <= 100]
    asking += [lumi(0, k, n) for k in range(4) for n in (6, 8, count)]
    asking += [counts(), owners(count), owners(1), alike(0, 0), looks(0), list_of(0, 0, count), worth(0, count, 5)]
    asking += [defect_set(d, count) for d in range(2)] + [changed(0, 3, count), part(0, 0, count, (3, 60))]
    telling = [owner(0, 3, 3), owner(0, 7, 7), owner(1, 5, 5), owner(1, 4, 4), rule("both a b"), rule("c")]
    telling += [defect("c", 3), defect("d", 3)]
    return asking + telling


def filled(count):
    """Tellings up to so many writings."""
    return TOLD + [meter(1, 0)] * (count - len(TOLD))


class RoomTest(HouseTest):
    def test_the_hundredth_and_the_one_behind(self):
        for call in ONE_OF_EACH:
            with self.subTest(call=call):
                given = ask(*filled(99), call, call if call[0] != 0 else defect("e"))
                self.assertEqual(100, given[99][-1])
                self.assertEqual([-8], given[100])

    def test_all_100_are_answered(self):
        self.assertEqual([[place] for place in range(10, 101)], ask(*filled(100))[9:])

    def test_as_of_100(self):
        calls = [*filled(99), set_on(0, WHOLE)]
        self.assertEqual([0, 0], last(*calls, good(0, 100)))
        self.assertEqual([9957, 3, 0, 5, 10, 12, 50, 10000], last(*calls, good(0, 99)))
        self.refused(-7, *filled(99), good(0, 100))
        self.refused(-7, *filled(99), lumi(0, 0, 100))
        self.refused(-1, *calls, good(0, 101))
        self.refused(-1, *calls, lumi(0, 0, 101))
        self.assertEqual([9957, 3, 0, 5, 10, 12, 50, 10000], last(*calls, changed(0, 100, 99)))
        self.assertEqual([10000, 1, 0, 10000], last(*calls, defect_set(0, 100)))
        self.assertEqual([2, 3, 5], last(*calls, owners(100)))
        self.assertEqual([0], last(*calls, list_of(0, 0, 100)))
        self.assertEqual([[0, 0], [1, 0]], ask(*calls, *[judge(0, 0, n, 0, 1) for n in (100, 99)])[-2:])
        self.assertEqual([1, 8, 5], last(*calls, worth(0, 100, 0)))
        for asking in (changed(0, 99, 100), changed(0, 100, 99), defect_set(0, 100), owners(100), list_of(0, 0, 100),
                       judge(0, 0, 100, 0, 1), worth(0, 100, 0), part(0, 0, 100)):
            with self.subTest(asking=asking):
                self.refused(-7, *filled(99), asking)

    def test_no_room_stands_behind_all_else(self):
        for code, call in (
            (-1, defect("c", 10)),
            (-1, defect("")),
            (-3, defect("a", 1)),
            (-1, owner(0, 10, 1)),
            (-2, owner(2, 0, 1)),
            (-6, owner(0, 4, 1)),
            (-1, set_on(0, (1, 1))),
            (-2, set_on(2, (1, 2))),
            (-1, lift(0, 0, (1, 1))),
            (-2, lift(2, 0, (1, 2))),
            (-6, lift(0, 4, (1, 2))),
            (-1, meter(0, 0)),
            (-1, live(1, 2, 1)),
            (-1, scale(4, 1, 1)),
            (-1, rule([256])),
            (-1003, rule("not")),
            (-2005, rule("long 0 a")),
            (-3000, rule("c")),
            (-4032, rule("not " * 8 + "a")),
        ):
            with self.subTest(call=call):
                self.refused(code, *filled(100), call)

    def test_asking_takes_no_room(self):
        asking = [shown(0), good(0, 9), lumi(0, 0, 9)] * 2 + ASKINGS
        self.assertEqual([100], last(*filled(99), *asking, meter(1, 1)))

    def test_refused_tellings_take_no_room(self):
        refused = [defect("a"), rule("c"), set_on(9, (1, 2)), owner(0, 4, 1)]
        self.assertEqual([100], last(*filled(99), *refused, meter(1, 1)))


class NothingChangedTest(HouseTest):
    def unchanged(self, told, code, call):
        after = probes(len(told))
        wanted = ask(*told, *after)[len(told):]
        given = ask(*told, call, *after)[len(told):]
        self.assertEqual([code], given[0], call)
        self.assertEqual(wanted, given[1:], call)

    def test_by_each_refusal(self):
        for code, call in (
            (-1, defect("c", 10)),
            (-1, defect("all", 1)),
            (-3, defect("a", 7)),
            (-1, owner(0, 3, 10)),
            (-1, owner(0, 10, 7)),
            (-2, owner(2, 0, 7)),
            (-6, owner(0, 7, 7)),
            (-6, owner(1, 4, 4)),
            (-1, with_row(2, [0], [60, 70, 80])),
            (-1, set_on(0, (60, 70), (80, 80))),
            (-2, set_on(2, (60, 70))),
            (-1, lift(0, 3, (20, 30), (5, 4))),
            (-1, lift(0, 10, (20, 30))),
            (-2, lift(-1, 0, (20, 30))),
            (-6, lift(0, 4, (20, 30))),
            (-1, meter(10000, 50, (0, 90))),
            (-1, meter(5, 10000, (0, 90))),
            (-1, meter(5, 50, (0, 10001))),
            (-1, live(10000, 1, 2, (0, 80))),
            (-1, live(5, 3, 2, (0, 80))),
            (-1, live(5, 1, 2, (-1, 80))),
            (-1, scale(4, 5, 2, (0, 70))),
            (-1, scale(0, 0, 2, (0, 70))),
            (-1, scale(0, 5, 1001, (0, 70))),
            (-1, scale(0, 5, 2, (70, 0))),
            (-1, rule([97, 256])),
            (-1002, rule("a a")),
            (-2005, rule("long 21 a")),
            (-3000, rule("c")),
            (-4032, rule("not " * 8 + "a")),
            (-2, shown(1)),
            (-1, good(0, 101)),
            (-2, good(1, 3)),
            (-7, good(0, 10)),
            (-1, lumi(0, 4, 3)),
            (-1, lumi(0, 0, -FAR)),
            (-2, lumi(FAR, 0, 3)),
            (-7, lumi(0, 0, 10)),
            (-1, part(0, 0, 9, (5, 5))),
            (-2, part(1, 0, 9, (5, 6))),
            (-7, part(0, 0, 10, (5, 6))),
            (-1, list_of(0, 4, 9)),
            (-2, list_of(-1, 0, 9)),
            (-7, list_of(0, 0, 10)),
            (-1, judge(0, 0, 9, 1, 0)),
            (-1, judge(0, 0, 9, 1, 1, (0, 5, 8, 0))),
            (-2, judge(1, 0, 9, 1, 1, (0, 5, 8, 5))),
            (-7, judge(0, 0, 10, 1, 1, (0, 5, 8, 5))),
            (-1, defect_set(0, 101)),
            (-2, defect_set(2, 9)),
            (-7, defect_set(0, 10)),
            (-1, owners(-1)),
            (-7, owners(10)),
            (-2, alike(0, 1)),
            (-2, looks(1)),
            (-1, changed(0, 101, 9)),
            (-2, changed(1, 3, 9)),
            (-7, changed(0, 10, 9)),
            (-1, worth(0, 9, 10000)),
            (-7, worth(0, 10, 0)),
        ):
            with self.subTest(call=call):
                self.unchanged(TOLD, code, call)

    def test_by_no_room(self):
        full = filled(100)
        for call in ONE_OF_EACH:
            with self.subTest(call=call):
                self.unchanged(full, -8, call)

    def test_by_no_room_for_a_ninth_defect(self):
        told = TOLD + [defect(name, 2) for name in ("e", "f", "g", "h", "i", "j")]
        self.unchanged(told, -8, defect("c", 1))

    def test_by_no_room_for_an_eleventh_rule(self):
        told = TOLD + [rule("all")] * 9
        self.unchanged(told, -8, rule("not b"))

    def test_by_too_wide(self):
        told = TOLD[:-1] + [rule("long 6 a")]
        self.unchanged(told, -9, alike(0, 0))

    def test_asking_changes_nothing(self):
        for call in (shown(0), good(0, 9), good(0, 4), lumi(0, 0, 9), lumi(0, 3, 0), *ASKINGS):
            with self.subTest(call=call):
                after = probes(len(TOLD))
                self.assertEqual(ask(*TOLD, *after)[len(TOLD):], ask(*TOLD, call, *after)[len(TOLD) + 1:])


if __name__ == "__main__":
    unittest.main()

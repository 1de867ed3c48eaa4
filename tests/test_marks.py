"""Points 13 to 15, anchor, regret and worth; and which calls forget what is marked."""

import unittest

from helper import (ANCHOR, FAR, LEAST, REGRET, STATE, ask, back, check, forecast, go, hour_of, last, line, loads, options,
                    out, read, table, trip, units, worth)

FREE = units(line("a", 1, 9, start=0, run=0, per=1, up=1, down=1, ramp=9))
ONE = units(line("a", 2, 5, start=10, run=3, per=1, up=2, down=2, ramp=1))
PAIR = units(line("a", 1, 4, start=0, run=0, per=1, up=1, down=1, ramp=9)
             + line("b", 1, 4, start=0, run=0, per=3, up=1, down=1, ramp=9))
TOO_MANY = units(line("a", 1, 60) + line("b", 1, 60))
NO_PLAN = forecast(2, 240)


class Anchor(unittest.TestCase):
    def test_it_answers_the_cost_to_come(self):
        self.assertEqual(ask(ONE, loads(0, 2, 3), ANCHOR, LEAST)[2:], [[0, 21], [0, 21]])
        self.assertEqual(ask(FREE, loads(2, 3, 4), go(5), ANCHOR, LEAST)[3:], [[0, 7], [0, 7]])

    def test_no_hour_to_come(self):
        self.assertEqual(ask(ANCHOR, REGRET), [[0, 0], [0, 0]])
        self.assertEqual(ask(ONE, ANCHOR, REGRET)[1:], [[0, 0], [0, 0]])
        self.assertEqual(ask(ONE, loads(2), go(2), ANCHOR, REGRET)[3:], [[0, 0], [0, 0]])

    def test_no_plan(self):
        self.assertEqual(ask(FREE, loads(2, 10), ANCHOR, REGRET)[2:], [[-4], [-3]])

    def test_a_second_one_replaces_the_first(self):
        asked = ask(FREE, loads(2, 3, 4), ANCHOR, go(5), REGRET, ANCHOR, REGRET, go(4), REGRET)
        self.assertEqual(asked[2:], [[0, 9], [0, 5], [0, 3], [0, 7], [0, 0], [0, 4], [0, 1]])

    def test_a_refused_one_leaves_what_is_marked(self):
        asked = ask(FREE, loads(2, 3, 4), ANCHOR, go(5), NO_PLAN, ANCHOR, forecast(2, 4), REGRET)
        self.assertEqual(asked[5:], [[-4], [0], [0, 3]])


class Regret(unittest.TestCase):
    def test_hours_gone_through_otherwise_than_planned(self):
        day = (FREE, loads(2, 3, 4), ANCHOR)
        self.assertEqual(ask(*day, REGRET, go(2), REGRET, go(3), REGRET, go(4), REGRET)[3::2], [[0, 0]] * 4)
        self.assertEqual(ask(*day, go(9), REGRET, go(3), REGRET, go(5), REGRET)[4::2], [[0, 7], [0, 7], [0, 8]])

    def test_a_start_too_early(self):
        # By the plan the unit starts in the hour 1, for 15 and then 6.
        asked = ask(ONE, loads(0, 2, 3), ANCHOR, go(2), REGRET, go(2), REGRET, go(3), REGRET)
        self.assertEqual(asked[2::2], [[0, 21], [0, 5], [0, 5], [0, 5]])

    def test_loads_told_anew(self):
        asked = ask(FREE, loads(2, 3, 4), ANCHOR, forecast(1, 5), REGRET, forecast(2, 0), REGRET, forecast(0, 0), REGRET)
        self.assertEqual(asked[4::2], [[0, 2], [0, -2], [0, -4]])

    def test_hours_gone_by_and_loads_told_anew(self):
        asked = ask(FREE, loads(2, 3, 4), go(2), ANCHOR, go(5), REGRET, forecast(2, 1), REGRET, go(1), REGRET)
        self.assertEqual(asked[3:], [[0, 7], [0, 5], [0, 2], [0], [0, -1], [0, 1], [0, -1]])

    def test_out_back_and_trip(self):
        asked = ask(PAIR, loads(2, 2, 2), ANCHOR, out(0, 1, 1), REGRET, back(0), REGRET)
        self.assertEqual(asked[2:], [[0, 6], [0], [0, 4], [0], [0, 0]])
        asked = ask(ONE, loads(2, 0, 0, 2), ANCHOR, go(2), trip(0), REGRET)
        self.assertEqual(asked[2:], [[0, 30], [0, 15], [0], [0, 0]])
        asked = ask(ONE, loads(2, 2, 0, 2), ANCHOR, go(2), go(2), REGRET, trip(0), REGRET)
        self.assertEqual(asked[2:], [[0, 30], [0, 15], [0, 5], [0, 0], [0], [0, 5]])
        asked = ask(ONE, loads(2, 2, 0, 0), ANCHOR, go(2), trip(0), REGRET)
        self.assertEqual(asked[2:], [[0, 20], [0, 15], [0], [-4]])
        asked = ask(ONE, loads(2, 2, 0, 0), ANCHOR, go(2), forecast(1, 0), trip(0), REGRET)
        self.assertEqual(asked[2:], [[0, 20], [0, 15], [0], [0], [0, -5]])

    def test_nothing_marked(self):
        self.assertEqual(ask(REGRET, FREE, REGRET, loads(1, 1), REGRET, go(1), REGRET)[::2], [[-3]] * 4)

    def test_no_plan(self):
        asked = ask(FREE, loads(2, 3, 4), NO_PLAN, REGRET, ANCHOR, REGRET, forecast(2, 0), ANCHOR, NO_PLAN, REGRET,
                    forecast(2, 1), REGRET)
        self.assertEqual(asked[3:], [[-3], [-4], [-3], [0], [0, 5], [0], [-4], [0], [0, 1]])

    def test_units_and_loads_forget_what_is_marked(self):
        marked = (FREE, loads(2, 3), ANCHOR)
        self.assertEqual(ask(*marked, loads(2, 3), REGRET)[3:], [[0, 2], [-3]])
        self.assertEqual(ask(*marked, loads(), REGRET)[3:], [[0, 0], [-3]])
        self.assertEqual(ask(*marked, FREE, REGRET, loads(2, 3), REGRET)[3:], [[0, 1, 10], [-3], [0, 2], [-3]])
        self.assertEqual(ask(*marked, go(3), ONE, REGRET)[4:], [[0, 1, 10], [-3]])
        self.assertEqual(ask(ANCHOR, FREE, REGRET), [[0, 0], [0, 1, 10], [-3]])

    def test_refused_calls_forget_nothing(self):
        marked = (FREE, loads(2, 3, 4), ANCHOR, go(5))
        bad = (units(""), units("x\n"), TOO_MANY, loads(2, 3), loads(241), loads(*[0] * 49), forecast(0, 1), out(1, 1, 1),
               back(1), go(10), go(1, 1), trip(1), table(4), worth(3), options(1), hour_of(3))
        whys = [[-2], [-2], [-5], [-3]] + [[-1]] * 5 + [[-6]] + [[-1]] * 6
        self.assertEqual(ask(*marked, *bad, REGRET)[4:], whys + [[0, 3]])
        self.assertEqual(ask(FREE, loads(2), ANCHOR, loads(241), REGRET)[3:], [[-1], [0, 0]])

    def test_other_calls_forget_nothing(self):
        for call in (forecast(1, 3), out(0, 2, 2), back(0), LEAST, check(3, 4), table(1), STATE, worth(1), read("")):
            self.assertEqual(ask(FREE, loads(2, 3, 0), ANCHOR, go(5), call, REGRET)[5:], [[0, 3]])

    def test_the_dearest_day(self):
        dear = units("".join(line(name, 60, 60, start=1000, run=1000, per=1000, up=1, down=1) for name in "abcd"))
        asked = ask(dear, loads(*[0] * 48), ANCHOR, *[go(60, 60, 60, 60)] * 48, REGRET, STATE)
        self.assertEqual(asked[2], [0, 0])
        self.assertEqual(asked[51:], [[0, 4 * (48 * 61000 + 1000)],
                                      [0, 48, 4 * (48 * 61000 + 1000), 48] + [1, 1, 60] * 4])


class Worth(unittest.TestCase):
    def test_each_hour(self):
        day = (PAIR, loads(2, 4, 7, 8))
        self.assertEqual(ask(*day, *[worth(hour) for hour in range(4)])[2:], [[0, 1, 1], [0, 1, 3], [0, 1, 3], [0, 0]])

    def test_a_start_that_one_more_load_asks_for(self):
        self.assertEqual(ask(ONE, loads(0, 0, 0), worth(0), worth(1), worth(2))[2:], [[0, 1, 20], [0, 1, 20], [0, 1, 15]])

    def test_what_other_hours_do_for_it(self):
        # To be at 4 in the hour 1 the unit must be at 3 before it and behind it; 5 can't be reached there.
        self.assertEqual(ask(ONE, loads(2, 3, 2), *[worth(hour) for hour in range(3)])[2:],
                         [[0, 1, 1], [0, 1, 3], [0, 1, 1]])
        self.assertEqual(ask(ONE, loads(2, 4, 2), worth(1))[2:], [[0, 0]])

    def test_nothing_more_where_more_is_given_anyway(self):
        big = units(line("a", 5, 9, start=1, run=1, per=1, up=1, down=1, ramp=9))
        self.assertEqual(ask(big, loads(1, 4, 5, 9), *[worth(hour) for hour in range(4)])[2:],
                         [[0, 1, 0], [0, 1, 0], [0, 1, 1], [0, 0]])

    def test_after_some_hours(self):
        begun = (ONE, loads(2, 2, 2, 0, 0), go(2), go(2))
        self.assertEqual(ask(*begun, *[worth(hour) for hour in range(6)])[4:],
                         [[-1], [-1], [0, 1, 1], [0, 1, 5], [0, 1, 10], [-1]])

    def test_a_unit_that_is_out(self):
        day = (PAIR, loads(2, 2, 2), out(0, 1, 1), out(1, 2, 2))
        self.assertEqual(ask(*day, *[worth(hour) for hour in range(3)])[4:], [[0, 1, 1], [0, 1, 3], [0, 1, 1]])
        self.assertEqual(ask(PAIR, loads(0, 0), out(0, 1, 1), out(1, 1, 1), worth(0), worth(1))[4:], [[0, 1, 1], [0, 0]])

    def test_load_240(self):
        four = units("".join(line(name, 60, 60, start=1, run=1, per=0, up=1, down=1) for name in "abcd"))
        self.assertEqual(ask(four, loads(239, 240), worth(0), worth(1))[2:], [[0, 1, 0], [0, 0]])
        self.assertEqual(ask(four, loads(0, 240, 180), worth(0), worth(1), worth(2))[2:], [[0, 1, 1], [0, 0], [0, 1, 1]])
        self.assertEqual(last(FREE, loads(240), worth(0)), [-4])

    def test_no_plan(self):
        self.assertEqual(ask(FREE, loads(1, 10, 1), worth(0), worth(1), worth(2))[2:], [[-4]] * 3)
        self.assertEqual(ask(FREE, loads(1, 10, 1), worth(3), worth(-1))[2:], [[-1], [-1]])

    def test_the_hours_range(self):
        for hour in (-1, 2, 3, FAR, -FAR):
            self.assertEqual(last(FREE, loads(1, 1), worth(hour)), [-1])
        self.assertEqual(ask(worth(0), FREE, worth(0), loads(), worth(0), loads(1), go(1), worth(0), worth(1)),
                         [[-1], [0, 1, 10], [-1], [0, 0], [-1], [0, 1], [0, 1], [-1], [-1]])

    def test_the_load_stays(self):
        asked = ask(FREE, loads(2, 3), worth(0), worth(1), LEAST, hour_of(0), hour_of(1), table(1), check(2, 3))
        self.assertEqual(asked[4:], [[0, 5], [0, 2, 1], [0, 3, 1], [0] + [3] * 10, [0, 1, 5]])

    def test_it_is_what_least_tells_with_the_load_told_anew(self):
        text = units(line("a", 2, 6, start=20, run=5, per=3, up=3, down=2, ramp=2)
                     + line("b", 1, 4, start=7, run=6, per=5, up=1, down=3, ramp=1))
        day = (3, 5, 8, 7, 2, 0, 0, 0, 4, 7, 1, 0)
        for hour, load in enumerate(day):
            asked = ask(text, loads(*day), LEAST, worth(hour), forecast(hour, load + 1), LEAST)
            told = [0, 0] if asked[5] == [-4] else [0, 1, asked[5][1] - asked[2][1]]
            self.assertEqual(asked[3], told)

    def test_30_in_48_hours_with_600_modes(self):
        wide = units(line("a", 1, 23, start=0, run=0, per=2, up=1, down=1, ramp=60)
                     + line("b", 1, 24, start=0, run=0, per=1, up=1, down=1, ramp=60))
        day = [20 + hour % 10 for hour in range(48)]
        asked = ask(wide, loads(*day), *[worth(hour) for hour in range(18, 48)])
        self.assertEqual(asked[2:], [[0, 1, 1 if day[hour] < 24 else 2] for hour in range(18, 48)])


if __name__ == "__main__":
    unittest.main()

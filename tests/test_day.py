"""Points 1 to 4: loads, forecast, out and back."""

import unittest

from helper import FAR, LEAST, PLAN, ask, back, check, forecast, go, last, line, loads, out, trip, units

ONE = units(line("a", 2, 5, start=10, run=3, per=1, up=2, down=2, ramp=1))
FREE = units(line("a", 1, 9, start=0, run=0, per=1, up=1, down=1, ramp=9))
PAIR = units(line("a", 1, 4, start=0, run=0, per=1, up=1, down=1, ramp=9)
             + line("b", 1, 4, start=0, run=0, per=3, up=1, down=1, ramp=9))
WRONG = (-1, FAR, -FAR, FAR - 1)


class Loads(unittest.TestCase):
    def test_a_day(self):
        self.assertEqual(ask(ONE, loads(0, 2, 3), LEAST), [[0, 1, 10], [0, 3], [0, 21]])

    def test_how_many(self):
        self.assertEqual(ask(FREE, loads(), LEAST, PLAN)[1:], [[0, 0], [0, 0], [0]])
        self.assertEqual(ask(FREE, loads(1), LEAST)[1:], [[0, 1], [0, 1]])
        self.assertEqual(ask(FREE, loads(*[1] * 48), LEAST)[1:], [[0, 48], [0, 48]])
        self.assertEqual(ask(FREE, loads(*[1] * 49), LEAST)[1:], [[-1], [0, 0]])
        self.assertEqual(ask(FREE, loads(*[1] * 300))[1:], [[-1]])

    def test_how_much(self):
        four = units("".join(line(name, 60, 60, start=0, run=1, per=0, up=1, down=1) for name in "abcd"))
        self.assertEqual(ask(four, loads(0, 240), LEAST, PLAN)[1:], [[0, 2], [0, 4], [0, 0, 0, 0, 0, 60, 60, 60, 60]])
        self.assertEqual(ask(four, loads(241), LEAST)[1:], [[-1], [0, 0]])
        self.assertEqual(last(four, loads(-1)), [-1])
        self.assertEqual(last(four, loads(0, 240, 240, 241)), [-1])
        for load in WRONG:
            self.assertEqual(last(four, loads(0, load, 0)), [-1])

    def test_they_replace_the_day_before_it_has_begun(self):
        self.assertEqual(ask(FREE, loads(9, 9, 9), loads(2, 3), LEAST, PLAN)[2:], [[0, 2], [0, 5], [0, 2, 3]])
        self.assertEqual(ask(FREE, loads(9, 9, 9), LEAST, loads(2, 3), LEAST)[2:], [[0, 27], [0, 2], [0, 5]])
        self.assertEqual(ask(FREE, loads(1), loads(), LEAST, loads(2), LEAST)[2:], [[0, 0], [0, 0], [0, 1], [0, 2]])

    def test_all_units_are_available_in_them(self):
        self.assertEqual(ask(FREE, loads(1, 1), out(0, 0, 1), LEAST, loads(1, 1), LEAST)[3:], [[-4], [0, 2], [0, 2]])

    def test_no_units(self):
        self.assertEqual(ask(loads(1)), [[-3]])
        self.assertEqual(ask(loads()), [[-3]])
        self.assertEqual(ask(loads(241)), [[-1]])
        self.assertEqual(ask(loads(*[1] * 49)), [[-1]])

    def test_not_once_an_hour_went_by(self):
        begun = (FREE, loads(1, 2, 3), go(1))
        self.assertEqual(ask(*begun, loads(5, 5, 5), LEAST)[3:], [[-3], [0, 5]])
        self.assertEqual(ask(*begun, loads(), PLAN)[3:], [[-3], [0, 2, 3]])
        self.assertEqual(last(*begun, loads(-1)), [-1])
        self.assertEqual(last(*begun, loads(*[0] * 49)), [-1])
        self.assertEqual(ask(FREE, loads(1), go(1), loads(1), LEAST)[3:], [[-3], [0, 0]])

    def test_each_hour_has_its_own_availability(self):
        self.assertEqual(last(FREE, loads(0, 0, 0), out(0, 1, 1), check(1, 0, 1)), [0, 1, 2])


class Forecast(unittest.TestCase):
    def test_another_load(self):
        self.assertEqual(ask(FREE, loads(1, 1, 1), forecast(1, 5), LEAST, PLAN)[2:], [[0], [0, 7], [0, 1, 5, 1]])
        self.assertEqual(last(FREE, loads(1, 1, 1), forecast(0, 0), forecast(2, 9), PLAN), [0, 0, 1, 9])

    def test_after_the_cost_was_told(self):
        asked = ask(FREE, loads(1, 1, 1), LEAST, forecast(0, 2), LEAST, forecast(2, 3), LEAST, forecast(1, 4), LEAST,
                    forecast(2, 240), LEAST, PLAN, forecast(2, 0), LEAST, PLAN)
        self.assertEqual(asked[2::2], [[0, 3], [0, 4], [0, 6], [0, 9], [-4], [0], [0, 2, 4, 0]])
        self.assertEqual(asked[3::2], [[0], [0], [0], [0], [-4], [0, 6]])

    def test_the_hours_range(self):
        begun = (FREE, loads(1, 1, 1), go(1))
        self.assertEqual(last(*begun, forecast(0, 1)), [-1])
        self.assertEqual(last(*begun, forecast(1, 1)), [0])
        self.assertEqual(last(*begun, forecast(2, 1)), [0])
        self.assertEqual(last(*begun, forecast(3, 1)), [-1])
        for hour in WRONG:
            self.assertEqual(last(*begun, forecast(hour, 1)), [-1])

    def test_the_loads_range(self):
        begun = (FREE, loads(1, 1))
        for load in (0, 240):
            self.assertEqual(last(*begun, forecast(1, load)), [0])
        for load in (241,) + WRONG:
            self.assertEqual(ask(*begun, forecast(1, load), LEAST)[2:], [[-1], [0, 2]])

    def test_no_hours(self):
        self.assertEqual(ask(forecast(0, 0), FREE, forecast(0, 0), loads(1), go(1), forecast(1, 0), forecast(0, 0)),
                         [[-1], [0, 1, 10], [-1], [0, 1], [0, 1], [-1], [-1]])


class OutAndBack(unittest.TestCase):
    def test_another_unit_steps_in(self):
        self.assertEqual(ask(PAIR, loads(2, 2, 2, 2), PLAN, out(0, 1, 2), PLAN, LEAST)[2:],
                         [[0, 2, 0, 2, 0, 2, 0, 2, 0], [0], [0, 2, 0, 0, 2, 0, 2, 2, 0], [0, 16]])

    def test_both_ends_count(self):
        for first, final in ((0, 0), (0, 3), (1, 2), (2, 2), (3, 3)):
            for hour in range(4):
                row = [1 if hour == there else 0 for there in range(4)]
                told = [0, 0, hour, 1] if first <= hour <= final else [0, 1, 1]
                self.assertEqual(last(FREE, loads(0, 0, 0, 0), out(0, first, final), check(*row)), told)

    def test_a_unit_that_is_out_while_it_is_on(self):
        begun = (units(line("a", 2, 5, up=3, down=2, ramp=1)), loads(2, 0, 0, 0, 2))
        self.assertEqual(last(*begun, check(2, 0, 0, 0, 2)), [0, 0, 1, 1])
        self.assertEqual(last(*begun, out(0, 1, 1), check(2, 0, 0, 0, 2)), [0, 1, 30])
        self.assertEqual(last(*begun, out(0, 1, 1), check(2, 2, 2, 2, 2)), [0, 0, 1, 1])
        self.assertEqual(last(*begun, out(0, 1, 1), PLAN), [0, 2, 0, 0, 0, 2])
        self.assertEqual(last(*begun, out(0, 1, 1), check(2, 0, 2, 0, 2)), [0, 0, 2, 1])
        self.assertEqual(ask(*begun, go(2), out(0, 1, 2), go(2), go(0), go(0))[2:], [[0, 15], [0], [-6], [0, 0], [0, 0]])

    def test_an_hour_out_counts_as_an_hour_off(self):
        begun = (units(line("a", 2, 5, up=1, down=3, ramp=1)), loads(2, 0, 0, 0, 2), out(0, 1, 3))
        self.assertEqual(last(*begun, check(2, 0, 0, 0, 2)), [0, 1, 30])

    def test_after_the_cost_was_told(self):
        asked = ask(PAIR, loads(2, 2, 2), LEAST, out(0, 0, 0), LEAST, out(0, 2, 2), LEAST, out(1, 1, 2), LEAST,
                    back(1), LEAST, back(0), LEAST, PLAN)
        self.assertEqual(asked[2::2], [[0, 6], [0, 10], [0, 14], [-4], [0, 14], [0, 6]])
        self.assertEqual(asked[-1], [0, 2, 0, 2, 0, 2, 0])

    def test_back_is_for_that_unit_and_all_hours_to_come(self):
        begun = (PAIR, loads(0, 0, 0), out(0, 0, 2), out(1, 0, 2), back(1))
        self.assertEqual(last(*begun, check(0, 1, 0, 1, 0, 1)), [0, 1, 9])
        for hour in range(3):
            row = [0, 0, 0, 0, 0, 0]
            row[2 * hour] = 1
            self.assertEqual(last(*begun, check(*row)), [0, 0, hour, 1])

    def test_back_once_an_hour_went_by(self):
        asked = ask(FREE, loads(0, 1, 1), out(0, 0, 2), go(0), LEAST, back(0), LEAST, go(1), go(1), back(0))
        self.assertEqual(asked[3:], [[0, 0], [-4], [0], [0, 2], [0, 1], [0, 1], [0]])

    def test_back_without_an_hour_to_come(self):
        self.assertEqual(ask(FREE, back(0), back(1)), [[0, 1, 10], [0], [-1]])

    def test_the_ranges_of_out(self):
        begun = (PAIR, loads(0, 0, 0, 0), go(0, 0))
        right = ((0, 1, 1), (1, 1, 3), (1, 3, 3), (0, 2, 3))
        wrong = ((2, 1, 1), (-1, 1, 1), (0, 0, 1), (0, 0, 0), (0, 4, 4), (0, 1, 4), (0, 2, 1), (0, 3, 2), (0, 1, 0))
        far = tuple((n, 1, 1) for n in WRONG) + tuple((0, n, 3) for n in WRONG) + tuple((0, 1, n) for n in WRONG)
        for given in right:
            self.assertEqual(last(*begun, out(*given)), [0], given)
        for given in wrong + far:
            row = check(1, 1, 1, 1, 1, 1)
            self.assertEqual(ask(*begun, out(*given), row)[3:], [[-1], [0, 1, 12]], given)

    def test_the_range_of_back(self):
        begun = (PAIR, loads(0, 0), out(0, 0, 1), out(1, 0, 1))
        for unit in (2, 3) + WRONG:
            self.assertEqual(ask(*begun, back(unit), check(0, 1))[4:], [[-1], [0, 0, 0, 1]])
        self.assertEqual(ask(*begun, back(0), back(1), check(1, 1, 1, 1))[4:], [[0], [0], [0, 1, 8]])

    def test_no_units_or_no_hours(self):
        self.assertEqual(ask(out(0, 0, 0), back(0), FREE, out(0, 0, 0), loads(0), go(0), out(0, 1, 1), out(0, 0, 0)),
                         [[-1], [-1], [0, 1, 10], [-1], [0, 1], [0, 0], [-1], [-1]])

    def test_out_and_back_leave_the_mode(self):
        self.assertEqual(ask(ONE, loads(2, 2, 2), go(2), out(0, 1, 2), back(0), go(3), trip(0))[2:],
                         [[0, 15], [0], [0], [0, 6], [0]])


if __name__ == "__main__":
    unittest.main()

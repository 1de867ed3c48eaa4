"""Points 7 to 9: check, go and trip."""

import unittest

from boilerplans.calls import go_call, loads_call, trip_call, units_call
from boilerplans.plant import Plant

from helper import FAR, LEAST, PLAN, ask, check, go, last, line, loads, out, trip, units

ONE = units(line("a", 2, 9, start=10, run=3, per=1, up=3, down=2, ramp=3))
PAIR = units(line("a", 1, 4, start=5, run=1, per=1, up=1, down=1, ramp=2)
             + line("b", 2, 6, start=7, run=2, per=3, up=2, down=2, ramp=3))
WRONG = (-1, 61, FAR, -FAR)


class Check(unittest.TestCase):
    def test_a_plan_and_its_cost(self):
        self.assertEqual(last(PAIR, loads(3, 5, 0), check(3, 0, 1, 4, 0, 4)), [0, 1, 9 + 2 + 7 + 14 + 14])
        self.assertEqual(last(PAIR, loads(0, 0), check(0, 0, 0, 0)), [0, 1, 0])
        self.assertEqual(last(PAIR, loads(6, 0), check(3, 5, 4, 6)), [0, 1, 9 + 24 + 5 + 20])

    def test_the_level_at_a_start(self):
        for level in range(61):
            told = [0, 1, 0] if level == 0 else [0, 1, 13 + level] if 2 <= level <= 5 else [0, 0, 0, 1]
            self.assertEqual(last(ONE, loads(0), check(level)), told)

    def test_the_ramp(self):
        for level in range(1, 61):
            told = [0, 1, 13 + 5 + 3 + 6 + 3 + level] if 3 <= level <= 9 else [0, 0, 2, 1]
            self.assertEqual(last(ONE, loads(0, 0, 0), check(5, 6, level)), told)
            told = [0, 1, 13 + 2 + 3 + level] if 2 <= level <= 5 else [0, 0, 1, 1]
            self.assertEqual(last(ONE, loads(0, 0), check(2, level)), told)
            told = [0, 1, 13 + 5 + 3 + 8 + 3 + level] if 5 <= level <= 9 else [0, 0, 2, 1]
            self.assertEqual(last(ONE, loads(0, 0, 0), check(5, 8, level)), told)

    def test_the_least_hours_on_and_off(self):
        day = loads(0, 0, 0, 0, 0, 0)
        self.assertEqual(last(ONE, day, check(2, 0)), [0, 0, 1, 1])
        self.assertEqual(last(ONE, day, check(2, 2, 0)), [0, 0, 2, 1])
        self.assertEqual(last(ONE, day, check(2, 2, 2, 0, 0, 0)), [0, 1, 25])
        self.assertEqual(last(ONE, day, check(2, 2, 2, 2, 2, 0)), [0, 1, 35])
        self.assertEqual(last(ONE, day, check(2, 2, 2, 0, 2, 2)), [0, 0, 4, 1])
        self.assertEqual(last(ONE, day, check(2, 2, 2, 0, 0, 2)), [0, 1, 40])
        self.assertEqual(last(ONE, day, check(0, 2, 2, 2, 0, 2)), [0, 0, 5, 1])

    def test_the_load(self):
        self.assertEqual(last(PAIR, loads(5), check(3, 2)), [0, 1, 24])
        self.assertEqual(last(PAIR, loads(6), check(3, 2)), [0, 0, 0, 2])
        self.assertEqual(last(PAIR, loads(0, 1), check(0, 0, 0, 0)), [0, 0, 1, 2])

    def test_the_first_wrong_hour_and_why(self):
        day = (PAIR, loads(1, 1, 1, 1))
        self.assertEqual(last(*day, check(1, 0, 1, 0, 0, 0, 9, 9)), [0, 0, 2, 2])
        self.assertEqual(last(*day, check(1, 0, 1, 0, 9, 9, 0, 0)), [0, 0, 2, 1])
        self.assertEqual(last(*day, check(1, 0, 0, 1, 1, 0, 1, 0)), [0, 0, 1, 1])
        self.assertEqual(last(*day, check(1, 0, 4, 0, 1, 0, 1, 0)), [0, 0, 1, 1])
        self.assertEqual(last(*day, check(0, 0, 0, 0)), [0, 0, 0, 2])

    def test_a_wrong_level_goes_before_the_load(self):
        self.assertEqual(last(PAIR, loads(9), check(0, 1)), [0, 0, 0, 1])
        self.assertEqual(last(PAIR, loads(9), check(4, 0)), [0, 0, 0, 1])
        self.assertEqual(last(PAIR, loads(9), check(60, 0)), [0, 0, 0, 1])

    def test_too_short(self):
        day = (PAIR, loads(1, 1, 1))
        self.assertEqual(last(*day, check()), [0, 0, 0, 3])
        self.assertEqual(last(*day, check(1)), [0, 0, 0, 3])
        self.assertEqual(last(*day, check(1, 0)), [0, 0, 1, 3])
        self.assertEqual(last(*day, check(1, 0, 1)), [0, 0, 1, 3])
        self.assertEqual(last(*day, check(1, 0, 1, 0, 1)), [0, 0, 2, 3])
        self.assertEqual(last(*day, check(1, 0, 0, 0, 1)), [0, 0, 1, 2])
        self.assertEqual(last(*day, check(4, 0, 0, 0, 1)), [0, 0, 0, 1])

    def test_too_short_for_an_hour_goes_before_what_is_there_of_it(self):
        self.assertEqual(last(PAIR, loads(1, 1), check(1, 0, 9)), [0, 0, 1, 3])

    def test_too_long(self):
        day = (PAIR, loads(1, 1))
        self.assertEqual(last(*day, check(1, 0, 1, 0, 0)), [0, 0, -1, 3])
        self.assertEqual(last(*day, check(1, 0, 1, 0, 1, 0)), [0, 0, -1, 3])
        self.assertEqual(last(*day, check(1, 0, 1, 0, *[0] * 296)), [0, 0, -1, 3])
        self.assertEqual(last(*day, check(1, 0, 0, 0, 1, 0)), [0, 0, 1, 2])
        self.assertEqual(last(*day, check(1, 0, 0, 9, 1, 0)), [0, 0, 1, 1])

    def test_from_now_on_by_the_hours_number_in_the_day(self):
        begun = (ONE, loads(2, 2, 4, 0, 0), go(2), go(2))
        self.assertEqual(last(*begun, check(4, 0, 0)), [0, 1, 7])
        self.assertEqual(last(*begun, check(0)), [0, 0, 2, 1])
        self.assertEqual(last(*begun, check(3, 0, 0)), [0, 0, 2, 2])
        self.assertEqual(last(*begun, check(4, 0)), [0, 0, 4, 3])
        self.assertEqual(last(*begun, check(4, 0, 2)), [0, 0, 4, 1])
        self.assertEqual(last(*begun, check(4, 0, 0, 0)), [0, 0, -1, 3])

    def test_no_hour_to_come(self):
        for begun in ((), (ONE,), (ONE, loads()), (ONE, loads(2), go(2))):
            self.assertEqual(last(*begun, check()), [0, 1, 0])
            self.assertEqual(last(*begun, check(0)), [0, 0, -1, 3])
            self.assertEqual(last(*begun, check(60, 0, 2)), [0, 0, -1, 3])
            self.assertEqual(last(*begun, check(61)), [-1])

    def test_a_level_outside_its_range(self):
        for level in WRONG:
            self.assertEqual(last(ONE, loads(2, 2), check(level, 2)), [-1])
            self.assertEqual(last(ONE, loads(2, 2), check(0, level)), [-1])
            self.assertEqual(last(ONE, loads(2, 2), check(2, 2, 0, level)), [-1])
            self.assertEqual(last(ONE, loads(2, 2), check(level)), [-1])

    def test_checking_changes_nothing(self):
        plain = ask(ONE, loads(2, 3, 4, 0), go(2), LEAST, PLAN, go(3))
        rows = (check(3, 4, 0), check(3), check(0, 0, 0), check(61), check(9), check(3, 4, 4, 0))
        mixed = ask(ONE, loads(2, 3, 4, 0), *rows, go(2), *rows, LEAST, PLAN, go(3))
        self.assertEqual(mixed[:2] + mixed[8:9] + mixed[15:], plain)

    def test_a_whole_day_of_four_units(self):
        four = units("".join(line(name, 60, 60, start=1, run=0, per=0, up=1, down=1) for name in "abcd"))
        day = (four, loads(*[240] * 48))
        self.assertEqual(last(*day, check(*[60] * 192)), [0, 1, 4])
        self.assertEqual(last(*day, check(*[60] * 191)), [0, 0, 47, 3])
        self.assertEqual(last(*day, check(*[60] * 193)), [0, 0, -1, 3])
        self.assertEqual(last(*day, check(*[60] * 191, 0)), [0, 0, 47, 2])


class Go(unittest.TestCase):
    def test_hour_by_hour(self):
        self.assertEqual(ask(PAIR, loads(3, 5, 0, 2), go(3, 0), go(1, 4), go(0, 4), go(0, 2), go(0, 0))[2:],
                         [[0, 9], [0, 23], [0, 14], [0, 8], [-3]])

    def test_a_plan_is_gone_through_at_its_cost(self):
        begun = (PAIR, loads(3, 5, 8, 0, 0, 2))
        plan = last(*begun, PLAN)[1:]
        left = last(*begun, LEAST)[1]
        for hour in range(6):
            steps = [go(*plan[2 * k:2 * k + 2]) for k in range(hour + 1)]
            asked = ask(*begun, *steps, LEAST, PLAN)
            left -= asked[-3][1]
            self.assertEqual(asked[-2:], [[0, left], [0] + plan[2 * hour + 2:]])
        self.assertEqual(left, 0)

    def test_what_it_cost_is_spent(self):
        plant = Plant()
        text = list(line("a", 2, 5, start=10, run=3, per=1).encode())
        for call, row, spent in ((units_call, text, 0), (loads_call, [2, 3, 0], 0), (go_call, [2], 15),
                                 (go_call, [9], 15), (go_call, [3], 21), (loads_call, [0], 21), (units_call, [], 21)):
            call(plant, [row])
            self.assertEqual(plant.spent, spent)
        trip_call(plant, [0])
        self.assertEqual(plant.spent, 21)
        units_call(plant, [text])
        self.assertEqual(plant.spent, 0)

    def test_what_a_unit_cannot_be(self):
        begun = (ONE, loads(0, 0, 0, 0, 0, 0, 0))
        for level in (1, 6, 9, 10, 60):
            self.assertEqual(ask(*begun, go(level), go(2))[2:], [[-6], [0, 15]])
        self.assertEqual(ask(*begun, go(5), go(9), go(1), go(0), go(8), go(0), go(8), go(4), go(5), go(0))[2:],
                         [[0, 18], [-6], [-6], [-6], [0, 11], [-6], [0, 11], [-6], [0, 8], [0, 0]])
        self.assertEqual(ask(*begun, go(2), go(2), go(2), go(0), go(2), go(0), go(2))[5:],
                         [[0, 0], [-6], [0, 0], [0, 15]])

    def test_a_load_that_is_not_met(self):
        self.assertEqual(ask(PAIR, loads(5, 0), go(3, 0), go(0, 4), go(2, 2), go(3, 2), go(0, 2))[2:],
                         [[-6], [-6], [-6], [0, 24], [0, 8]])

    def test_the_rows_length(self):
        begun = (PAIR, loads(0, 0))
        for row in ((), (0,), (0, 0, 0), (0,) * 300):
            self.assertEqual(ask(*begun, go(*row), go(1, 0))[2:], [[-1], [0, 7]])

    def test_a_level_outside_its_range(self):
        for level in WRONG:
            self.assertEqual(ask(PAIR, loads(0), go(level, 0), go(0, level), go(1, 0))[2:], [[-1], [-1], [0, 7]])
        self.assertEqual(last(PAIR, loads(0), go(60, 0)), [-6])

    def test_no_hour_to_come(self):
        self.assertEqual(ask(go(), go(0), go(61)), [[-3], [-1], [-1]])
        self.assertEqual(ask(PAIR, go(0, 0), go(9, 9), go(0), go(0, 61))[1:], [[-3], [-3], [-1], [-1]])
        self.assertEqual(ask(PAIR, loads(), go(0, 0))[2:], [[-3]])
        self.assertEqual(ask(PAIR, loads(0), go(0, 0), go(0, 0), go(60, 60), go(0), go(0, -1))[3:],
                         [[-3], [-3], [-1], [-1]])

    def test_after_a_refusal_all_is_as_it_was(self):
        plain = ask(PAIR, loads(3, 5, 0), go(3, 0), LEAST, PLAN, go(3, 2))
        bad = (go(0, 0), go(4, 9), go(3), go(61, 0), go(9, 0), go(3, 1))
        mixed = ask(PAIR, loads(3, 5, 0), *bad, go(3, 0), *bad, LEAST, PLAN, go(3, 2))
        self.assertEqual(mixed[:2] + mixed[8:9] + mixed[15:], plain)


class Trip(unittest.TestCase):
    def test_its_mode_is_off_for_one_hour(self):
        begun = (ONE, loads(2, 0, 0, 0), go(2), trip(0))
        self.assertEqual(ask(*begun, check(2, 2, 2), check(0, 2, 2), check(0, 0, 2))[3:],
                         [[0], [0, 0, 1, 1], [0, 1, 20], [0, 1, 15]])

    def test_with_one_hour_off_it_may_start_at_once(self):
        begun = (PAIR, loads(0, 0, 0), go(2, 2))
        self.assertEqual(ask(*begun, trip(0), check(2, 2, 2, 2))[3:], [[0], [0, 1, 8 + 8 + 3 + 8]])
        self.assertEqual(ask(*begun, trip(0), check(4, 2, 2, 2))[3:], [[0], [0, 0, 1, 1]])
        self.assertEqual(ask(*begun, trip(1), check(2, 2, 2, 2))[3:], [[0], [0, 0, 1, 1]])
        self.assertEqual(ask(*begun, trip(1), check(2, 0, 2, 2))[3:], [[0], [0, 1, 3 + 3 + 15]])

    def test_whatever_its_hours_on(self):
        for hours in range(1, 5):
            begun = (ONE, loads(0, 0, 0, 0, 0, 0), *[go(2)] * hours)
            self.assertEqual(ask(*begun, trip(0), trip(0), go(2), go(0))[2 + hours:], [[0], [-4], [-6], [0, 0]])

    def test_no_hour_passes_and_nothing_is_paid(self):
        self.assertEqual(ask(ONE, loads(2, 0, 2), LEAST, go(2), trip(0), LEAST, PLAN, go(0), LEAST)[2:],
                         [[0, 25], [0, 15], [0], [0, 15], [0, 0, 2], [0, 0], [0, 15]])

    def test_it_may_start_again_later_when_it_has_rested(self):
        rested = units(line("a", 2, 5, up=2, down=4, ramp=1))
        begun = (rested, loads(2, 0, 0, 0, 2), go(2), trip(0))
        self.assertEqual(ask(*begun, LEAST, PLAN)[4:], [[0, 15], [0, 0, 0, 0, 2]])
        self.assertEqual(ask(rested, loads(2, 0, 0, 2), go(2), trip(0), LEAST)[4:], [[-4]])

    def test_a_unit_that_is_off(self):
        self.assertEqual(ask(PAIR, trip(0), trip(1))[1:], [[-4], [-4]])
        begun = (PAIR, loads(0, 0, 0), go(0, 2))
        self.assertEqual(ask(*begun, trip(0), trip(1), trip(1), go(1, 0), trip(1))[3:], [[-4], [0], [-4], [0, 7], [-4]])

    def test_off_the_rest_that_it_had_stays(self):
        asked = ask(ONE, loads(0, 2), trip(0), go(0), trip(0), LEAST, go(2))
        self.assertEqual(asked[2:], [[-4], [0, 0], [-4], [0, 15], [0, 15]])

    def test_at_the_days_end(self):
        self.assertEqual(ask(ONE, loads(2), go(2), trip(0), trip(0), LEAST)[2:], [[0, 15], [0], [-4], [0, 0]])

    def test_a_unit_that_is_not_there(self):
        self.assertEqual(ask(trip(0), trip(-1)), [[-1], [-1]])
        for unit in (2, 3, -1, -2, FAR, -FAR):
            self.assertEqual(ask(PAIR, loads(0, 0), go(1, 2), trip(unit), go(1, 2))[3:], [[-1], [0, 10]])

    def test_out_and_tripped(self):
        asked = ask(ONE, loads(2, 0, 0, 0), go(2), out(0, 1, 2), trip(0), go(0), go(0), go(2))
        self.assertEqual(asked[3:], [[0], [0], [0, 0], [0, 0], [0, 15]])


if __name__ == "__main__":
    unittest.main()

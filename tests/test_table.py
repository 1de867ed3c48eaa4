"""Points 10 and 11, table and prove: the costs to come from all modes together, and whether rows prove them."""

import unittest

from helper import FAR, LEAST, ask, back, forecast, go, last, line, loads, out, prove, table, trip, units

# Six modes: off for 1 and 2 hours, on for 1 hour at 2 and 3, on for 2 hours at 2 and 3.
ONE = units(line("a", 2, 3, start=10, run=3, per=1, up=2, down=2, ramp=1))
# Six modes together: off or on at 1; off for 1 or 2 hours, or on at 2.
TWO = units(line("a", 1, 1, start=5, run=1, per=0, up=1, down=1) + line("b", 2, 2, start=7, run=0, per=1, up=1, down=2))
WIDE = units(line("a", 1, 23, start=3, run=0, per=2, up=1, down=1, ramp=60)
             + line("b", 1, 24, start=2, run=1, per=1, up=1, down=1, ramp=60))
WRONG = (-1, FAR, -FAR)


def raised(row, place, number):
    """A row with another number at a place."""
    return row[:place] + [number] + row[place + 1:]


class Table(unittest.TestCase):
    def test_one_unit_hour_by_hour(self):
        self.assertEqual(ask(ONE, loads(0, 2), table(0), table(1), table(2))[2:],
                         [[0, 15, 15, 10, 10, 10, 10], [0, -1, 15, 5, 5, 5, 5], [0, 0, 0, 0, 0, 0, 0]])

    def test_in_any_order(self):
        self.assertEqual(ask(ONE, loads(0, 2), table(2), table(0), table(1), table(0))[2:],
                         [[0, 0, 0, 0, 0, 0, 0], [0, 15, 15, 10, 10, 10, 10], [0, -1, 15, 5, 5, 5, 5],
                          [0, 15, 15, 10, 10, 10, 10]])

    def test_the_first_units_mode_comes_first(self):
        self.assertEqual(ask(TWO, loads(2), table(0))[2:], [[0, -1, 9, 2, -1, 9, 2]])
        self.assertEqual(ask(TWO, loads(3), table(0))[2:], [[0, -1, 15, 8, -1, 10, 3]])
        self.assertEqual(ask(TWO, loads(1), table(0))[2:], [[0, 6, 6, 2, 1, 1, 1]])

    def test_modes_that_no_day_comes_to_are_told_too(self):
        slow = units(line("a", 1, 5, start=9, run=0, per=1, up=2, down=1, ramp=1))
        self.assertEqual(last(slow, loads(4), table(0)), [0, -1, -1, -1, 4, 4, 4, -1, -1, 4, 4, 4])

    def test_where_there_is_no_plan_from_any_modes(self):
        self.assertEqual(ask(ONE, loads(4), table(0), table(1), LEAST)[2:],
                         [[0, -1, -1, -1, -1, -1, -1], [0, 0, 0, 0, 0, 0, 0], [-4]])
        self.assertEqual(ask(ONE, loads(0, 0, 4), table(0))[2:], [[0, -1, -1, -1, -1, -1, -1]])

    def test_a_cost_of_0_is_no_none(self):
        free = units(line("a", 1, 1, start=0, run=0, per=0, up=1, down=1))
        self.assertEqual(ask(free, loads(1, 2), table(0), forecast(1, 1), table(0))[2:], [[0, -1, -1], [0], [0, 0, 0]])

    def test_a_unit_that_is_out(self):
        self.assertEqual(ask(ONE, loads(0, 0), out(0, 1, 1), table(1), table(0), forecast(1, 1), table(1))[3:],
                         [[0, 0, 0, 0, 0, 0, 0], [0, 0, 0, 5, 5, 0, 0], [0], [0, -1, -1, -1, -1, -1, -1]])
        self.assertEqual(ask(TWO, loads(1), out(0, 0, 0), table(0), out(1, 0, 0), table(0), back(0), table(0))[3::2],
                         [[0, -1, 9, 2, -1, 9, 2], [0, -1, -1, -1, -1, -1, -1], [0, 6, 6, 6, 1, 1, 1]])

    def test_after_the_loads_were_told_anew(self):
        self.assertEqual(ask(ONE, loads(0, 2), table(0), forecast(1, 3), table(1), table(0), loads(2), table(0))[2:],
                         [[0, 15, 15, 10, 10, 10, 10], [0], [0, -1, 16, 6, 6, 6, 6], [0, 16, 16, 11, 11, 11, 11],
                          [0, 1], [0, -1, 15, 5, 5, 5, 5]])

    def test_it_does_not_depend_on_the_modes_that_the_units_are_in(self):
        asked = ask(ONE, loads(2, 0, 2), table(1), go(2), table(1), trip(0), table(1))
        self.assertEqual([asked[2], asked[4], asked[6]], [[0, 15, 15, 10, 10, 10, 10]] * 3)

    def test_the_hours_range(self):
        begun = (ONE, loads(2, 2, 2), go(2))
        self.assertEqual([part[0] for part in ask(*begun, *[table(hour) for hour in range(-1, 6)])[3:]],
                         [-1, -1, 0, 0, 0, -1, -1])
        for hour in WRONG:
            self.assertEqual(last(*begun, table(hour)), [-1])

    def test_at_the_days_end(self):
        self.assertEqual(ask(ONE, table(0), table(1))[1:], [[0, 0, 0, 0, 0, 0, 0], [-1]])
        self.assertEqual(ask(ONE, loads(), table(0), table(1))[2:], [[0, 0, 0, 0, 0, 0, 0], [-1]])
        self.assertEqual(ask(ONE, loads(2), go(2), table(0), table(1), table(2))[3:], [[-1], [0, 0, 0, 0, 0, 0, 0], [-1]])

    def test_without_units(self):
        self.assertEqual(ask(table(0), table(1), table(-1), table(FAR)), [[-3], [-1], [-1], [-1]])

    def test_600_modes_and_48_hours(self):
        asked = ask(WIDE, loads(*[47] * 48), table(0), table(47), table(48))
        self.assertEqual([len(part) for part in asked[2:]], [601, 601, 601])
        self.assertEqual(asked[3][1:3], [23 * 2 + 3 + 24 + 1 + 2, 23 * 2 + 3 + 24 + 1])
        self.assertEqual(asked[3][-1], 23 * 2 + 24 + 1)
        self.assertEqual(asked[2][1], 48 * (23 * 2 + 24 + 1) + 5)
        self.assertEqual(asked[4], [0] * 601)


class Prove(unittest.TestCase):
    def test_two_tables(self):
        day = (ONE, loads(0, 2, 3, 0, 1))
        rows = [part[1:] for part in ask(*day, *[table(hour) for hour in range(6)])[2:]]
        for hour in range(5):
            self.assertEqual(last(*day, prove(hour, rows[hour], rows[hour + 1])), [0, 1])
            for place, number in enumerate(rows[hour]):
                if number >= 0:
                    for other, told in ((number + 1, 0), (number - 1, int(number > 0)), (0, 1), (-1, 0), (FAR, 0), (-FAR, 0)):
                        row = raised(rows[hour], place, other)
                        self.assertEqual(last(*day, prove(hour, row, rows[hour + 1])), [0, told])

    def test_of_modes_without_a_plan_anything_may_be_told(self):
        rows = [part[1:] for part in ask(ONE, loads(2, 2), table(0), table(1))[2:]]
        self.assertEqual(rows[0][0], -1)
        for number in (-1, -5, -FAR, 0, 7, FAR):
            self.assertEqual(last(ONE, loads(2, 2), prove(0, raised(rows[0], 0, number), rows[1])), [0, 1])

    def test_each_move_counts(self):
        # From off for 2 hours: off for 2, or on at 2 for 15, or on at 3 for 16.
        none = [-1] * 6
        day = (ONE, loads(0))
        for place, cost in ((1, 0), (2, 15), (3, 16)):
            later = raised(none, place, 100)
            a = [100, 100 + cost, 100, 100, 100, 100]
            self.assertEqual(last(*day, prove(0, a, later)), [0, 1])
            self.assertEqual(last(*day, prove(0, raised(a, 1, 101 + cost), later)), [0, 0])

    def test_moves_that_do_not_meet_the_load_do_not_count(self):
        a = [FAR, 15, 5, 5, 5, 5]
        self.assertEqual(last(ONE, loads(2), prove(0, a, [0] * 6)), [0, 1])
        self.assertEqual(last(ONE, loads(0), prove(0, a, [0] * 6)), [0, 0])
        self.assertEqual(last(ONE, loads(3), prove(0, [FAR, 16, 6, 6, 6, 6], [0] * 6)), [0, 1])
        self.assertEqual(last(ONE, loads(2), prove(0, [FAR, 16, 6, 6, 6, 6], [0] * 6)), [0, 0])
        self.assertEqual(last(ONE, loads(4), prove(0, [FAR] * 6, [0] * 6)), [0, 1])

    def test_the_units_that_are_out(self):
        self.assertEqual(last(ONE, loads(0), out(0, 0, 0), prove(0, [0] * 6, [0, 0] + [-1] * 4)), [0, 1])
        self.assertEqual(last(ONE, loads(0), out(0, 0, 0), prove(0, [9, 9, 5, 5, 5, 5], [5, 9, 0, 0, 0, 0])), [0, 1])
        self.assertEqual(last(ONE, loads(0), prove(0, [9, 9, 5, 5, 5, 5], [5, 9, 0, 0, 0, 0])), [0, 1])
        self.assertEqual(last(ONE, loads(0), prove(0, [9, 9, 6, 5, 5, 5], [5, 9, 0, 0, 0, 0])), [0, 0])
        self.assertEqual(last(ONE, loads(1), out(0, 0, 0), prove(0, [FAR] * 6, [0] * 6)), [0, 1])

    def test_numbers_below_0_in_b_are_none(self):
        for none in (-1, -2, -FAR):
            for number in (-FAR, -1, 0, FAR):
                self.assertEqual(last(ONE, loads(0), prove(0, [number] * 6, [none] * 6)), [0, 1])
        self.assertEqual(last(ONE, loads(0), prove(0, [0] * 6, [0] * 6)), [0, 1])
        self.assertEqual(last(ONE, loads(0), prove(0, [1] * 6, [0] * 6)), [0, 0])

    def test_numbers_below_0_in_a_tell_none_where_there_is_a_move(self):
        for none in (-1, -2, -FAR):
            for place in range(6):
                self.assertEqual(last(ONE, loads(0), prove(0, raised([0] * 6, place, none), [0] * 6)), [0, 0])
        self.assertEqual(last(ONE, loads(2), prove(0, [-1, 0, 0, 0, 0, 0], [0] * 6)), [0, 1])
        self.assertEqual(last(ONE, loads(0), prove(0, [-1] * 6, [FAR] * 6)), [0, 0])

    def test_numbers_as_large_as_can_be_told(self):
        self.assertEqual(last(ONE, loads(0), prove(0, [FAR] * 6, [FAR] * 6)), [0, 1])
        self.assertEqual(last(ONE, loads(0), prove(0, [FAR] * 6, [FAR - 1] * 6)), [0, 0])
        self.assertEqual(last(ONE, loads(2), prove(0, [FAR] * 6, [FAR - 5] * 6)), [0, 1])
        self.assertEqual(last(ONE, loads(2), prove(0, [FAR] * 6, [FAR - 6] * 6)), [0, 0])
        self.assertEqual(last(ONE, loads(0), prove(0, [0] * 6, [FAR] * 6)), [0, 1])

    def test_the_rows_lengths(self):
        day = (ONE, loads(0))
        for a, b in ((5, 6), (7, 6), (6, 5), (6, 7), (5, 7), (0, 6), (6, 0), (0, 0), (700, 700), (6, 700), (700, 6)):
            self.assertEqual(last(*day, prove(0, [0] * a, [0] * b)), [-1])
            self.assertEqual(ask(*day, prove(0, [FAR] * a, [-FAR] * b), prove(0, [0] * 6, [0] * 6), LEAST)[2:],
                             [[-1], [0, 1], [0, 0]])

    def test_the_hours_range(self):
        begun = (ONE, loads(2, 2, 0), go(2))
        row = [0] * 6
        self.assertEqual([part[0] for part in ask(*begun, *[prove(hour, row, row) for hour in range(-1, 5)])[3:]],
                         [-1, -1, 0, 0, -1, -1])
        for hour in WRONG:
            self.assertEqual(last(*begun, prove(hour, row, row)), [-1])
        self.assertEqual(last(*begun, prove(0, [], [])), [-1])

    def test_each_hour_by_its_own_load(self):
        row = [FAR, 15, 5, 5, 5, 5]
        self.assertEqual(ask(ONE, loads(0, 2, 3), *[prove(hour, row, [0] * 6) for hour in range(3)])[2:],
                         [[0, 0], [0, 1], [0, 1]])

    def test_without_units_or_hours(self):
        self.assertEqual(ask(prove(0, [], []), prove(0, [0], [0]), prove(-1, [0], [0])), [[-1]] * 3)
        self.assertEqual(ask(ONE, prove(0, [0] * 6, [0] * 6), loads(), prove(0, [0] * 6, [0] * 6))[1::2], [[-1], [-1]])
        self.assertEqual(ask(ONE, loads(0), go(0), prove(1, [0] * 6, [0] * 6), prove(0, [0] * 6, [0] * 6))[3:], [[-1], [-1]])

    def test_two_units(self):
        self.assertEqual(last(TWO, loads(3), prove(0, [-1, 15, 8, -1, 10, 3], [0] * 6)), [0, 1])
        for place in (1, 2, 4, 5):
            row = [-1, 15, 8, -1, 10, 3]
            self.assertEqual(last(TWO, loads(3), prove(0, raised(row, place, row[place] + 1), [0] * 6)), [0, 0])
        # Only both on meet the load.
        self.assertEqual(last(TWO, loads(3), prove(0, [0, 15, 8, 0, 10, 3], [-1, -1, -1, -1, -1, 0])), [0, 1])
        self.assertEqual(last(TWO, loads(3), prove(0, [0, 16, 9, 0, 11, 4], [-1, -1, -1, -1, -1, 0])), [0, 0])
        self.assertEqual(last(TWO, loads(3), prove(0, [0, 16, 9, 0, 11, 4], [0, 0, 0, 0, 0, 1])), [0, 1])

    def test_600_modes(self):
        day = (WIDE, loads(*[47, 3] * 24))
        rows = [part[1:] for part in ask(*day, table(0), table(1))[2:]]
        self.assertEqual(last(*day, prove(0, *rows)), [0, 1])
        wrong = [prove(0, raised(rows[0], place, rows[0][place] + 1), rows[1]) for place in range(0, 600, 55)]
        self.assertEqual(ask(*day, *wrong)[2:], [[0, 0]] * len(wrong))


if __name__ == "__main__":
    unittest.main()

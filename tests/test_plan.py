"""Points 5 and 6, least and plan: what an hour costs, what a plan is, and which one is the plan."""

import unittest

from helper import LEAST, PLAN, ask, check, forecast, go, last, line, loads, out, trip, units


def planned(text, *day):
    """The cost to come and the plan of a day."""
    return ask(units(text), loads(*day), LEAST, PLAN)[2:]


class Costs(unittest.TestCase):
    def test_a_start_an_hour_and_a_level(self):
        self.assertEqual(planned(line("a", 2, 5, start=10, run=3, per=1), 2), [[0, 15], [0, 2]])
        self.assertEqual(planned(line("a", 2, 5, start=10, run=0, per=0), 2), [[0, 10], [0, 2]])
        self.assertEqual(planned(line("a", 2, 5, start=0, run=3, per=0), 3), [[0, 3], [0, 3]])
        self.assertEqual(planned(line("a", 2, 5, start=0, run=0, per=7), 3), [[0, 21], [0, 3]])
        self.assertEqual(planned(line("a", 2, 5, start=1000, run=1000, per=1000), 3), [[0, 5000], [0, 3]])

    def test_a_day(self):
        self.assertEqual(planned(line("a", 2, 5, start=10, run=3, per=1, up=2, down=2, ramp=1), 0, 2, 3, 0, 0),
                         [[0, 21], [0, 0, 2, 3, 0, 0]])

    def test_it_stays_on_where_a_start_is_dearer(self):
        cheap = line("a", 2, 5, start=4, run=3, per=1, up=1, down=1)
        dear = line("a", 2, 5, start=6, run=3, per=1, up=1, down=1)
        self.assertEqual(planned(cheap, 2, 0, 2), [[0, 18], [0, 2, 0, 2]])
        self.assertEqual(planned(dear, 2, 0, 2), [[0, 21], [0, 2, 2, 2]])

    def test_two_units(self):
        text = line("a", 1, 4, start=9, run=1, per=2, up=1, down=1, ramp=4) + line("b", 2, 3, start=1, run=1, per=3)
        self.assertEqual(planned(text, 1, 3, 6), [[0, 36], [0, 1, 0, 3, 0, 4, 2]])

    def test_more_than_the_load_may_be_given(self):
        self.assertEqual(planned(line("a", 5, 9, up=1, down=1), 1), [[0, 18], [0, 5]])

    def test_no_hour_to_come(self):
        text = line("a", 2, 5)
        self.assertEqual(planned(text), [[0, 0], [0]])
        self.assertEqual(ask(units(text), loads(2), go(2), LEAST, PLAN)[3:], [[0, 0], [0]])
        self.assertEqual(ask(LEAST, PLAN), [[0, 0], [0]])
        self.assertEqual(ask(units(text), LEAST, PLAN)[1:], [[0, 0], [0]])

    def test_from_now_on(self):
        asked = ask(units(line("a", 2, 5, up=2, down=1)), loads(2, 3, 4), LEAST, go(3), LEAST, PLAN, go(4), LEAST, PLAN,
                    go(4), LEAST)
        self.assertEqual(asked[2:], [[0, 28], [0, 16], [0, 13], [0, 3, 4], [0, 7], [0, 7], [0, 4], [0, 7], [0, 0]])

    def test_asking_changes_nothing(self):
        asked = ask(units(line("a", 2, 5)), loads(2, 3, 4), LEAST, PLAN, PLAN, LEAST, go(2), go(3), go(4))
        self.assertEqual(asked[2:], [[0, 28], [0, 2, 3, 4], [0, 2, 3, 4], [0, 28], [0, 15], [0, 6], [0, 7]])


class Bounds(unittest.TestCase):
    def test_the_level_at_a_start(self):
        text = line("a", 2, 9, start=0, run=1, per=1, up=1, down=1, ramp=3)
        self.assertEqual(planned(text, 5), [[0, 6], [0, 5]])
        self.assertEqual(planned(text, 6), [[-4], [-4]])
        self.assertEqual(planned(text, 0, 6), [[0, 11], [0, 3, 6]])
        self.assertEqual(planned(line("a", 2, 9, ramp=60), 9), [[0, 22], [0, 9]])
        self.assertEqual(planned(line("a", 2, 9, ramp=60), 10), [[-4], [-4]])

    def test_the_ramp(self):
        text = line("a", 1, 9, start=5, run=1, per=1, up=1, down=1, ramp=2)
        self.assertEqual(planned(text, 0, 0, 7), [[0, 23], [0, 3, 5, 7]])
        self.assertEqual(planned(text, 0, 0, 8), [[-4], [-4]])
        self.assertEqual(planned(text, 3, 5, 7, 9, 1), [[0, 41], [0, 3, 5, 7, 9, 7]])
        self.assertEqual(planned(text, 3, 5, 7, 0, 0), [[0, 23], [0, 3, 5, 7, 0, 0]])

    def test_the_least_hours_on(self):
        text = line("a", 2, 2, start=5, run=1, per=0, up=3, down=1)
        self.assertEqual(planned(text, 2, 0, 0, 0), [[0, 8], [0, 2, 2, 2, 0]])
        self.assertEqual(planned(text, 0, 0, 2, 0), [[0, 7], [0, 0, 0, 2, 2]])
        self.assertEqual(planned(text, 0, 0, 0, 2), [[0, 6], [0, 0, 0, 0, 2]])

    def test_the_least_hours_off(self):
        text = line("a", 2, 2, start=0, run=1, per=0, up=1, down=3)
        self.assertEqual(planned(text, 2, 0, 0, 2), [[0, 4], [0, 2, 2, 2, 2]])
        self.assertEqual(planned(text, 2, 0, 0, 0, 2), [[0, 2], [0, 2, 0, 0, 0, 2]])
        self.assertEqual(planned(text, 0, 2), [[0, 1], [0, 0, 2]])
        self.assertEqual(planned(text, 2), [[0, 1], [0, 2]])

    def test_a_day_without_any_plan(self):
        text = line("a", 2, 5, ramp=1)
        self.assertEqual(planned(text, 4), [[-4], [-4]])
        self.assertEqual(planned(text, 0, 0, 0, 6), [[-4], [-4]])
        self.assertEqual(planned(text, 0, 240), [[-4], [-4]])
        self.assertEqual(ask(units(text), loads(2, 3), out(0, 1, 1), LEAST, PLAN)[3:], [[-4], [-4]])

    def test_no_plan_any_more(self):
        asked = ask(units(line("a", 2, 5, up=1, down=2)), loads(2, 0, 2), LEAST, go(2), trip(0), LEAST, PLAN,
                    forecast(2, 0), LEAST, PLAN)
        self.assertEqual(asked[2:], [[0, 25], [0, 15], [0], [0, 15], [0, 0, 2], [0], [0, 0], [0, 0, 0]])
        asked = ask(units(line("a", 2, 5, up=1, down=2)), loads(2, 2), go(2), trip(0), LEAST, PLAN)
        self.assertEqual(asked[4:], [[-4], [-4]])


class FirstInOrder(unittest.TestCase):
    def test_off_comes_before_on(self):
        self.assertEqual(planned(line("a", 1, 3, start=0, run=0, per=0, up=1, down=1), 0, 0, 0),
                         [[0, 0], [0, 0, 0, 0]])

    def test_levels_rise(self):
        self.assertEqual(planned(line("a", 1, 9, start=0, run=0, per=0, up=1, down=1, ramp=9), 2, 5, 1),
                         [[0, 0], [0, 2, 5, 1]])
        self.assertEqual(planned(line("a", 1, 3, start=0, run=0, per=0, up=1, down=1, ramp=1), 0, 0, 3),
                         [[0, 0], [0, 0, 2, 3]])

    def test_the_first_unit_comes_first(self):
        text = "".join(line(name, 1, 3, start=2, run=1, per=1, up=1, down=1, ramp=3) for name in "abc")
        self.assertEqual(planned(text, 2), [[0, 5], [0, 0, 0, 2]])
        self.assertEqual(planned(text, 2, 3), [[0, 9], [0, 0, 0, 2, 0, 0, 3]])
        self.assertEqual(planned(text, 5), [[0, 11], [0, 0, 2, 3]])
        self.assertEqual(planned(text, 9), [[0, 18], [0, 3, 3, 3]])

    def test_the_first_hour_comes_before_the_next(self):
        text = line("a", 1, 2, start=3, run=0, per=0, up=1, down=1) + line("b", 1, 2, start=3, run=0, per=0, up=1, down=1)
        self.assertEqual(planned(text, 1, 1), [[0, 3], [0, 0, 1, 0, 1]])
        asked = ask(units(text), loads(0, 1), out(1, 1, 1), PLAN, LEAST)
        self.assertEqual(asked[3:], [[0, 0, 0, 1, 0], [0, 3]])
        asked = ask(units(text), loads(1, 1), out(1, 1, 1), PLAN, LEAST)
        self.assertEqual(asked[3:], [[0, 1, 0, 1, 0], [0, 3]])

    def test_an_earlier_first_move_outweighs_a_later_second_one(self):
        # Both 0 then 5 and 1 then 0 cost 6; the first move of the former comes first.
        text = line("a", 1, 2, start=0, run=6, per=0, up=1, down=1) + line("b", 5, 5, start=1, run=0, per=1, up=1, down=1)
        self.assertEqual(planned(text, 0, 1), [[0, 6], [0, 0, 0, 0, 5]])
        self.assertEqual(planned(text, 1, 0), [[0, 6], [0, 0, 5, 0, 0]])

    def test_the_plan_is_a_plan_and_costs_the_least(self):
        text = (line("a", 2, 6, start=20, run=5, per=3, up=3, down=2, ramp=2)
                + line("b", 1, 4, start=7, run=6, per=5, up=1, down=3, ramp=1))
        day = loads(3, 5, 8, 9, 2, 0, 0, 0, 4, 7, 1, 0)
        plan = last(units(text), day, PLAN)[1:]
        least = last(units(text), day, LEAST)[1]
        self.assertEqual(len(plan), 24)
        asked = ask(units(text), day, check(*plan), *[go(*plan[k:k + 2]) for k in range(0, 24, 2)])
        self.assertEqual(asked[2], [0, 1, least])
        self.assertEqual(sum(part[1] for part in asked[3:]), least)


class Large(unittest.TestCase):
    def test_600_modes_and_48_hours(self):
        text = (line("a", 1, 23, start=0, run=0, per=2, up=1, down=1, ramp=60)
                + line("b", 1, 24, start=0, run=0, per=1, up=1, down=1, ramp=60))
        day = [(hour * 7) % 48 for hour in range(48)]
        plan = []
        for load in day:
            plan.extend([max(load - 24, 0), min(load, 24)])
        cost = sum(2 * a + b for a, b in zip(plan[0::2], plan[1::2]))
        asked = ask(units(text), loads(*day), *[LEAST, PLAN] * 15, check(*plan))
        self.assertEqual(asked[2:], [[0, cost], [0] + plan] * 15 + [[0, 1, cost]])

    def test_the_dearest_day(self):
        text = "".join(line(name, 60, 60, start=1000, run=1000, per=1000, up=1, down=1) for name in "abcd")
        self.assertEqual(planned(text, *[240] * 48), [[0, 4 * (48 * 61000 + 1000)], [0] + [60] * 192])


if __name__ == "__main__":
    unittest.main()

"""Lines with calls of all twenty kinds: what only tells changes nothing, and all that is told agrees."""

import unittest

from helper import (ANCHOR, LEAST, PLAN, PRINT, REGRET, STATE, ask, back, check, forecast, go, hour_of, joined, last, line,
                    loads, options, out, prove, read, table, trip, units, worth)

A = line("a", 2, 4, start=9, run=2, per=3, up=2, down=2, ramp=1)
B = line("b", 1, 3, start=4, run=1, per=4, up=1, down=3, ramp=2)
C = line("c", 2, 2, start=1, run=0, per=5, up=1, down=1, ramp=1)
# For each plant its text, its units' first levels, greatest levels, least hours on and off, and how many modes together.
PLANTS = (
    (A, ((2, 4, 2, 2),), 8),
    (A + B, ((2, 4, 2, 2), (1, 3, 1, 3)), 48),
    (B + A, ((1, 3, 1, 3), (2, 4, 2, 2)), 48),
    (B + C + A, ((1, 3, 1, 3), (2, 2, 1, 1), (2, 4, 2, 2)), 96),
)
DAY = (2, 0, 3, 3, 1, 2, 0, 2)
# The first unit can be out in the hour 4 of this day without the plan being gone.
WITH_REST = (2, 0, 3, 3, 0, 0, 0, 2)


def place_of(shapes, told):
    """The place, in the order of all modes together, of the modes that state tells."""
    place = 0
    for number, (low, high, up, down) in enumerate(shapes):
        is_on, hours, level = told[3 * number:3 * number + 3]
        levels = high - low + 1
        mode = down + (hours - 1) * levels + level - low if is_on else hours - 1
        place = place * (down + up * levels) + mode
    return place


def options_by_level(answer):
    """What options answers, by the level: the three numbers, and the cost."""
    fours = [answer[k:k + 4] for k in range(1, len(answer), 4)]
    return {four[2]: (four[:3], four[3]) for four in fours}


class ChangeNothing(unittest.TestCase):
    def test_calls_that_only_tell_between_all_others(self):
        day = [units(A + B), loads(*DAY), ANCHOR, LEAST, go(2, 0), PLAN, forecast(3, 4), REGRET, out(1, 2, 4), LEAST, go(3, 0),
               trip(0), go(0, 0), REGRET, back(1), forecast(3, 1), ANCHOR, go(0, 1), check(0, 1, 2, 0, 2, 0, 2, 0), REGRET,
               PLAN, loads(1), units(C), REGRET, loads(2, 2), LEAST, PLAN, go(2)]
        rows = [part[1:] for part in ask(units(A + B), loads(*DAY), table(5), table(6))[2:]]
        looks = [STATE, PRINT, hour_of(0), hour_of(5), read(A), read("x"), options(0), options(1), prove(5, *rows),
                 prove(5, rows[1], rows[0]), table(5), table(8), worth(5), table(0), worth(0)]
        plain = ask(*day)
        for place in range(len(day) + 1):
            mixed = ask(*day[:place], *looks, *day[place:])
            self.assertEqual(mixed[:place] + mixed[place + len(looks):], plain, place)
            again = ask(*day[:place], *looks, *looks)[place:]
            self.assertEqual(again[:len(looks)], again[len(looks):], place)
        # A line has at most 30 calls of the kinds of table and worth, so these stay out here.
        for look in looks[:10]:
            mixed = ask(*joined([[call, look] for call in day]))
            self.assertEqual(mixed[::2], plain, look)

    def test_they_leave_what_is_marked(self):
        marked = (units(A), loads(2, 2, 0, 2), ANCHOR, go(3))
        told = last(*marked, REGRET)
        self.assertEqual(told, [0, 3])
        for look in (STATE, PRINT, hour_of(0), read(A), options(0), prove(1, [0] * 8, [0] * 8), table(1), table(4), worth(2)):
            self.assertEqual(last(*marked, look, REGRET), told)


class Agree(unittest.TestCase):
    def test_the_tables_now_and_least(self):
        for text, shapes, together in PLANTS:
            begun = [units(text), loads(*DAY)]
            plan = last(*begun, PLAN)[1:]
            many = len(shapes)
            for hour in range(len(DAY) + 1):
                asked = ask(*begun, STATE, LEAST, table(hour))
                self.assertEqual(len(asked[-1]), together + 1)
                self.assertEqual(asked[-1][1 + place_of(shapes, asked[-3][4:])], asked[-2][1])
                begun.append(go(*plan[hour * many:hour * many + many]))

    def test_the_tables_prove_one_another(self):
        for text, shapes, together in PLANTS:
            begun = (units(text), loads(*WITH_REST), out(0, 4, 4))
            rows = [part[1:] for part in ask(*begun, *[table(hour) for hour in range(9)])[3:]]
            self.assertIn(-1, joined(rows))
            for hour in range(8):
                self.assertEqual(last(*begun, prove(hour, rows[hour], rows[hour + 1])), [0, 1])
                more = [number + 1 if number >= 0 else number for number in rows[hour]]
                self.assertEqual(last(*begun, prove(hour, more, rows[hour + 1])), [0, 0])
                some = next(place for place, number in enumerate(rows[hour]) if number >= 0)
                short = rows[hour][:some] + [more[some]] + rows[hour][some + 1:]
                self.assertEqual(last(*begun, prove(hour, short, rows[hour + 1])), [0, 0])

    def test_options_and_go_and_state(self):
        for text, shapes, together in PLANTS:
            begun = [units(text), loads(*WITH_REST), out(0, 4, 4)]
            plan = last(*begun, PLAN)[1:]
            many = len(shapes)
            for hour in range(len(DAY)):
                levels = plan[hour * many:hour * many + many]
                told = [options_by_level(part) for part in ask(*begun, *[options(k) for k in range(many)])[-many:]]
                asked = ask(*begun, STATE, go(*levels), STATE)
                chosen = [told[k][level] for k, level in enumerate(levels)]
                cost = sum(part[1] for part in chosen)
                self.assertEqual(asked[-2], [0, cost])
                self.assertEqual(asked[-1], [0, hour + 1, asked[-3][2] + cost, 8] + joined([part[0] for part in chosen]))
                begun.append(go(*levels))

    def test_options_are_just_what_go_takes(self):
        steps = (go(2, 0), go(3, 1), trip(0), go(0, 2), go(0, 0), out(1, 4, 5), go(2, 0))
        for many in range(len(steps) + 1):
            begun = (units(A + B), loads(*[0] * 7), *steps[:many])
            first, second = [options_by_level(part) for part in ask(*begun, options(0), options(1))[-2:]]
            for level in range(6):
                for other in range(5):
                    taken = [0, first[level][1] + second[other][1]] if level in first and other in second else [-6]
                    self.assertEqual(last(*begun, go(level, other)), taken)

    def test_worth_and_forecast_and_hour(self):
        for text, shapes, together in PLANTS:
            begun = (units(text), loads(*DAY))
            for hour in range(len(DAY)):
                load = last(*begun, hour_of(hour))[1]
                self.assertEqual(load, DAY[hour])
                asked = ask(*begun, LEAST, worth(hour), forecast(hour, load + 1), LEAST)[2:]
                told = [0, 0] if asked[3] == [-4] else [0, 1, asked[3][1] - asked[0][1]]
                self.assertEqual(asked[1], told)

    def test_regret_and_check(self):
        # What a plan costs more than the cheapest is what regret tells once it was gone through.
        for text, shapes, together in PLANTS:
            many = len(shapes)
            row = [low for low, high, up, down in shapes] * 2
            steps = [go(*row[k:k + many]) for k in range(0, 2 * many, many)]
            asked = ask(units(text), loads(2, 2), ANCHOR, check(*row), *steps, REGRET)
            self.assertEqual(asked[3][:2], [0, 1] if sum(row[:many]) >= 2 else [0, 0])
            self.assertEqual(asked[-1], [0, asked[3][2] - asked[2][1]])

    def test_regret_stays_0_along_the_plan(self):
        for text, shapes, together in PLANTS:
            many = len(shapes)
            plan = last(units(text), loads(*DAY), PLAN)[1:]
            steps = [[go(*plan[k:k + many]), REGRET] for k in range(0, len(plan), many)]
            asked = ask(units(text), loads(*DAY), ANCHOR, LEAST, *joined(steps), STATE)
            self.assertEqual(asked[2], asked[3])
            self.assertEqual(asked[5:-1:2], [[0, 0]] * 8)
            self.assertEqual(asked[-1][2], asked[2][1])

    def test_print_and_read_and_units(self):
        for text, shapes, together in PLANTS:
            loose = "  " + text.replace(" ", "   ")[:-1] + " \n"
            asked = ask(units(loose), PRINT, read(loose))
            self.assertEqual(asked, [[0, len(shapes), together], [0] + list(text.encode()), [0, 1, len(shapes)]])
            printed = bytes(asked[1][1:]).decode()
            self.assertEqual(ask(units(printed), PRINT, read(printed)), asked)


if __name__ == "__main__":
    unittest.main()

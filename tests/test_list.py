"""The interface: a list goes in, a list comes out, and nothing is kept; and the calls at a line's beginning."""

import unittest

from boilerplans.desk import answers

from helper import (ANCHOR, FAR, LEAST, PLAN, PRINT, REGRET, STATE, ask, back, check, forecast, go, hour_of, joined, line,
                    loads, options, out, parted, prove, read, table, trip, units, worth)

# Calls of all twenty kinds.
DAY = [units(line("a", 2, 5) + line("b", 1, 3, up=1, down=1)), loads(3, 4, 5, 0), LEAST, PLAN, ANCHOR, forecast(2, 6),
       REGRET, out(0, 1, 1), LEAST, hour_of(1), back(0), PLAN, check(3, 0, 4, 0, 5, 1, 0, 0), worth(2),
       prove(3, [0] * 40, [0] * 40), go(3, 0), STATE, options(0), trip(0), table(3), prove(1, [0] * 39, [0] * 40), go(0, 2),
       check(), go(61), REGRET, read(line("a")), PRINT, LEAST]


class Frozen(list):
    """A list that can't be changed."""

    def refuse(self, *given, **named):
        raise AssertionError("what is handed in was changed")

    append = clear = extend = insert = pop = remove = reverse = sort = refuse
    __setitem__ = __delitem__ = __iadd__ = __imul__ = refuse


class TheList(unittest.TestCase):
    def test_counts_and_answers(self):
        text = line("a", 2, 5)
        self.assertEqual(answers(units(text)), [3, 0, 1, 10])
        self.assertEqual(answers(LEAST), [2, 0, 0])
        self.assertEqual(answers(PLAN), [1, 0])
        self.assertEqual(answers(units(text) + loads(2, 3) + PLAN + go(9) + go(2) + LEAST),
                         [3, 0, 1, 10, 2, 0, 2, 3, 0, 2, 3, 1, -6, 2, 0, 15, 2, 0, 6])

    def test_whole_numbers_in_a_list(self):
        answered = answers(joined(DAY))
        self.assertIs(type(answered), list)
        self.assertEqual({type(number) for number in answered}, {int})
        self.assertEqual(len(parted(answered)), len(DAY))

    def test_what_is_handed_in_is_as_it_was(self):
        calls = joined(DAY)
        kept = list(calls)
        answered = answers(calls)
        self.assertEqual(calls, kept)
        self.assertEqual(answers(Frozen(kept)), answered)

    def test_what_is_given_back_is_a_new_list(self):
        calls = joined(DAY)
        answered = answers(calls)
        kept = list(answered)
        answered.clear()
        self.assertEqual(answers(calls), kept)

    def test_a_second_time_answers_as_the_first(self):
        calls = joined(DAY)
        first = answers(calls)
        self.assertEqual(answers(calls), first)
        answers(units(line("c", 7, 9)) + loads(7, 7) + go(7))
        self.assertEqual(answers(LEAST + loads(1) + go() + trip(0)), [2, 0, 0, 1, -3, 1, -3, 1, -1])
        self.assertEqual(answers(calls), first)

    def test_the_day_has_all_kinds_of_calls(self):
        self.assertEqual({call[0] for call in DAY}, set(range(20)))

    def test_calls_with_two_rows(self):
        text = line("a", 1, 1, start=1, run=1, per=1, up=1, down=1)
        begun = units(text) + loads(0, 1)
        self.assertEqual(answers(begun + [11, 0, 2, 0, 0, 2, 0, 0, 12])[5 + 2:], [2, 0, 1, 7, 0, 0, 0, 2, 0, 1, 0])
        self.assertEqual(answers(begun + [11, 1, 2, 4, 3, 2, 0, 0, 10, 1])[7:], [2, 0, 0, 3, 0, 3, 2])
        self.assertEqual(answers(begun + [11, 0, 0, 0, 11, 0, 1, 7, 3, 7, 7, 7, 5])[7:], [1, -1, 1, -1, 2, 0, 3])

    def test_200_calls(self):
        calls = [units(line("a", 2, 5)), loads(*[0] * 48)] + [forecast(k % 48, k % 5) for k in range(198)]
        self.assertEqual(ask(*calls)[2:], [[0]] * 198)

    def test_a_long_list(self):
        row = [0] * 75
        calls = [units(line("a", 2, 5)), loads(*[0] * 48)] + [check(*row)] * 198
        self.assertEqual(ask(*calls)[2:], [[0, 0, -1, 3]] * 198)

    def test_200_calls_of_all_kinds(self):
        free = [call for call in DAY if call[0] not in (5, 6, 10, 13, 14, 15)]
        calls = DAY + (free * 10)[:200 - len(DAY)]
        self.assertEqual(len(calls), 200)
        self.assertLess(len(joined(calls)), 16000)
        asked = ask(*calls)
        self.assertEqual(asked[:len(DAY)], ask(*DAY))
        alone = ask(*free)
        self.assertEqual(asked[len(DAY):], (alone * 10)[:200 - len(DAY)])

    def test_long_rows(self):
        calls = [units(line("a", 2, 5)), loads(0)] + [prove(0, [FAR] * 700, [-FAR] * 700)] * 11
        self.assertEqual(ask(*calls)[2:], [[-1]] * 11)
        calls = [units(line("a", 2, 5)), *[read("\n" * 1000)] * 14, STATE]
        self.assertEqual(ask(*calls)[1:], [[0, 0, 5]] * 14 + [[0, 0, 0, 0, 0, 2, 0]])


class Beginning(unittest.TestCase):
    def test_each_call_first(self):
        self.assertEqual(ask(units(line("a", 2, 5))), [[0, 1, 10]])
        self.assertEqual(ask(units("")), [[-2]])
        self.assertEqual(ask(loads()), [[-3]])
        self.assertEqual(ask(loads(1, 2)), [[-3]])
        self.assertEqual(ask(forecast(0, 0)), [[-1]])
        self.assertEqual(ask(out(0, 0, 0)), [[-1]])
        self.assertEqual(ask(back(0)), [[-1]])
        self.assertEqual(ask(LEAST), [[0, 0]])
        self.assertEqual(ask(PLAN), [[0]])
        self.assertEqual(ask(check()), [[0, 1, 0]])
        self.assertEqual(ask(check(1)), [[0, 0, -1, 3]])
        self.assertEqual(ask(go()), [[-3]])
        self.assertEqual(ask(go(1)), [[-1]])
        self.assertEqual(ask(trip(0)), [[-1]])
        self.assertEqual(ask(table(0)), [[-3]])
        self.assertEqual(ask(table(1)), [[-1]])
        self.assertEqual(ask(prove(0, [], [])), [[-1]])
        self.assertEqual(ask(prove(0, [0], [0])), [[-1]])
        self.assertEqual(ask(STATE), [[0, 0, 0, 0]])
        self.assertEqual(ask(ANCHOR), [[0, 0]])
        self.assertEqual(ask(REGRET), [[-3]])
        self.assertEqual(ask(worth(0)), [[-1]])
        self.assertEqual(ask(PRINT), [[0]])
        self.assertEqual(ask(options(0)), [[-1]])
        self.assertEqual(ask(read("")), [[0, 0, 1]])
        self.assertEqual(ask(read(line("a"))), [[0, 1, 1]])
        self.assertEqual(ask(hour_of(0)), [[-1]])

    def test_far_numbers_first(self):
        for far in (FAR, -FAR):
            self.assertEqual(ask(loads(far), forecast(far, far), out(far, far, far), back(far), check(far), go(far),
                                 trip(far), table(far), prove(far, [far], [far]), worth(far), options(far), hour_of(far)),
                             [[-1]] * 12)

    def test_all_refused_calls_leave_the_beginning(self):
        refused = [units("\n"), loads(1), forecast(0, 1), out(0, 0, 0), back(0), go(), trip(0), table(0), prove(0, [], []),
                   REGRET, worth(0), options(0), hour_of(0)]
        asked = ask(*refused, *DAY)
        self.assertEqual(asked[len(refused):], ask(*DAY))

    def test_all_refused_calls_leave_the_day(self):
        bad = [units("x\n"), units(line("a", 1, 60) + line("b", 1, 60)), loads(241), forecast(9, 1), forecast(3, 241),
               out(2, 3, 3), out(0, 3, 2), back(2), check(61), go(0), go(61, 0), go(60, 60), trip(7), table(5), table(-1),
               prove(4, [0] * 40, [0] * 40), prove(3, [0] * 41, [0] * 40), prove(3, [0] * 40, [0] * 39), worth(4), worth(-1),
               options(2), options(-1), hour_of(4), hour_of(-1)]
        whys = [[-2], [-5]] + [[-1]] * 9 + [[-6]] + [[-1]] * 12
        plain = ask(*DAY)
        for place in range(2, len(DAY)):
            asked = ask(*DAY[:place], *bad, *DAY[place:])
            self.assertEqual(asked[place:place + len(bad)], whys)
            self.assertEqual(asked[:place] + asked[place + len(bad):], plain)

    def test_the_refusal_nearest_to_0(self):
        begun = (units(line("a", 2, 5)), loads(2, 2), go(2))
        self.assertEqual(ask(*begun, loads(241), go(9, 9), go(-1), trip(1))[3:], [[-1]] * 4)
        ended = (*begun, go(2))
        self.assertEqual(ask(*ended, go(61), go(), go(9), loads(*[0] * 49), loads(0))[4:], [[-1], [-1], [-3], [-1], [-3]])

    def test_the_refusal_nearest_to_0_of_the_later_calls(self):
        # No units and no such hour; no such unit and no hour to come; nothing marked and no plan; no such hour and no plan.
        self.assertEqual(ask(table(1), table(0), options(0)), [[-1], [-3], [-1]])
        text = units(line("a", 2, 5))
        self.assertEqual(ask(text, options(1), options(0))[1:], [[-1], [-3]])
        hopeless = (text, loads(240, 0))
        self.assertEqual(ask(*hopeless, REGRET, ANCHOR, REGRET, worth(2), worth(1))[2:], [[-3], [-4], [-3], [-1], [-4]])


if __name__ == "__main__":
    unittest.main()

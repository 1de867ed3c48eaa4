"""Points 12 and 16 to 19: state, print, options, read and hour."""

import unittest

from helper import (FAR, STATE, PRINT, ask, back, forecast, go, hour_of, last, line, loads, options, out, read, trip,
                    units)

ONE = units(line("a", 2, 5, start=10, run=3, per=1, up=2, down=2, ramp=1))
PAIR = units(line("a", 1, 4, start=5, run=1, per=1, up=1, down=1, ramp=2)
             + line("b", 2, 6, start=7, run=2, per=3, up=2, down=3, ramp=3))
GOOD = "unit a from 2 to 5 start 10 run 3 per 1 up 2 down 2 ramp 1\n"
WRONG = (-1, FAR, -FAR)


def of(text):
    return [0] + list(text.encode())


class State(unittest.TestCase):
    def test_at_a_lines_beginning(self):
        self.assertEqual(ask(STATE), [[0, 0, 0, 0]])

    def test_each_unit_is_off_for_its_least_hours_off(self):
        self.assertEqual(ask(ONE, STATE, loads(0, 0, 0), STATE)[1::2], [[0, 0, 0, 0, 0, 2, 0], [0, 0, 0, 3, 0, 2, 0]])
        self.assertEqual(last(PAIR, loads(*[9] * 48), STATE), [0, 0, 0, 48, 0, 1, 0, 0, 3, 0])

    def test_after_some_hours(self):
        asked = ask(ONE, loads(*[0] * 9), *[call for level in (2, 3, 4, 0, 0, 0, 3) for call in (go(level), STATE)])
        self.assertEqual(asked[3::2], [
            [0, 1, 15, 9, 1, 1, 2], [0, 2, 21, 9, 1, 2, 3], [0, 3, 28, 9, 1, 2, 4], [0, 4, 28, 9, 0, 1, 0],
            [0, 5, 28, 9, 0, 2, 0], [0, 6, 28, 9, 0, 2, 0], [0, 7, 44, 9, 1, 1, 3]])

    def test_two_units(self):
        asked = ask(PAIR, loads(*[0] * 5), go(3, 0), STATE, go(0, 4), STATE, go(0, 5), STATE, go(1, 0), STATE)
        self.assertEqual(asked[3::2], [
            [0, 1, 9, 5, 1, 1, 3, 0, 3, 0], [0, 2, 30, 5, 0, 1, 0, 1, 1, 4], [0, 3, 47, 5, 0, 1, 0, 1, 2, 5],
            [0, 4, 54, 5, 1, 1, 1, 0, 1, 0]])

    def test_after_a_trip(self):
        asked = ask(PAIR, loads(0, 0, 0), go(2, 2), trip(1), STATE, trip(0), STATE, go(0, 0), STATE)
        self.assertEqual(asked[4::2], [[0, 1, 23, 3, 1, 1, 2, 0, 1, 0], [0, 1, 23, 3, 0, 1, 0, 0, 1, 0],
                                       [0, 2, 23, 3, 0, 1, 0, 0, 2, 0]])

    def test_after_an_hour_out(self):
        self.assertEqual(last(ONE, loads(0, 0), go(2), out(0, 1, 1), go(0), STATE), [0, 2, 15, 2, 0, 1, 0])

    def test_at_the_days_end(self):
        self.assertEqual(last(ONE, loads(2), go(2), STATE), [0, 1, 15, 1, 1, 1, 2])

    def test_after_units_and_loads(self):
        self.assertEqual(last(ONE, loads(2, 2), go(2), PAIR, STATE), [0, 0, 0, 0, 0, 1, 0, 0, 3, 0])
        self.assertEqual(last(ONE, loads(2, 2), loads(3), STATE), [0, 0, 0, 1, 0, 2, 0])

    def test_eight_hours(self):
        slow = units(line("a", 1, 1, start=0, run=0, per=0, up=8, down=8))
        asked = ask(slow, loads(*[0] * 48), *[go(1), STATE] * 10, *[go(0), STATE] * 10)
        hours = [min(hour, 8) for hour in range(1, 11)]
        self.assertEqual([part[4:] for part in asked[3::2]], [[1, h, 1] for h in hours] + [[0, h, 0] for h in hours])

    def test_after_refusals(self):
        bad = (units(""), loads(1), go(9), go(), trip(1), out(0, 0, 0), forecast(0, 1), back(1))
        self.assertEqual(last(ONE, loads(2, 2), go(2), *bad, STATE), [0, 1, 15, 2, 1, 1, 2])


class Print(unittest.TestCase):
    def test_without_units(self):
        self.assertEqual(ask(PRINT, units("x"), PRINT), [[0], [-2], [0]])

    def test_the_one_text(self):
        self.assertEqual(last(units(GOOD), PRINT), of(GOOD))
        four = "".join(line(name, 1, 2, up=1, down=2) for name in ("d", "ramp", "unit", "abcdefgh"))
        self.assertEqual(last(units(four), PRINT), of(four))

    def test_of_a_text_with_more_blanks(self):
        tokens = GOOD.split()
        for text in ("   ".join(tokens) + "\n", "  " + GOOD, GOOD[:-1] + "   \n", " " + "  ".join(tokens) + "    \n"):
            self.assertEqual(last(units(text), PRINT), of(GOOD))
        other = line("b", 1, 3, up=1)
        self.assertEqual(last(units(" " + GOOD.replace(" ", "  ") + other.replace(" up", "    up")), PRINT), of(GOOD + other))

    def test_each_number(self):
        text = "unit z from 3 to 60 start 1000 run 0 per 999 up 8 down 7 ramp 59\n"
        self.assertEqual(last(units(text), PRINT), of(text))
        text = "unit z from 1 to 1 start 0 run 1000 per 10 up 1 down 1 ramp 1\n"
        self.assertEqual(last(units(text), PRINT), of(text))
        text = "unit z from 60 to 60 start 101 run 100 per 1000 up 2 down 8 ramp 60\n"
        self.assertEqual(last(units(text), PRINT), of(text))

    def test_after_hours_and_refusals(self):
        asked = ask(units(GOOD), loads(2, 2), go(2), PRINT, units(""), PRINT, trip(0), PRINT)
        self.assertEqual([asked[3], asked[5], asked[7]], [of(GOOD)] * 3)
        self.assertEqual(last(units(GOOD), PAIR, PRINT)[1:], PAIR[2:])


class Options(unittest.TestCase):
    def test_from_off(self):
        self.assertEqual(last(ONE, loads(0), options(0)), [0, 0, 2, 0, 0, 1, 1, 2, 15, 1, 1, 3, 16])
        self.assertEqual(last(PAIR, loads(0), options(0)), [0, 0, 1, 0, 0, 1, 1, 1, 7, 1, 1, 2, 8, 1, 1, 3, 9])
        self.assertEqual(last(PAIR, loads(0), options(1)),
                         [0, 0, 3, 0, 0, 1, 1, 2, 15, 1, 1, 3, 18, 1, 1, 4, 21, 1, 1, 5, 24])

    def test_not_above_the_greatest_level(self):
        flat = units(line("a", 4, 5, start=1, run=0, per=0, up=1, down=1, ramp=60))
        self.assertEqual(last(flat, loads(0), options(0)), [0, 0, 1, 0, 0, 1, 1, 4, 1, 1, 1, 5, 1])

    def test_from_off_before_it_has_rested(self):
        begun = (ONE, loads(*[0] * 6), go(2), trip(0))
        self.assertEqual(last(*begun, options(0)), [0, 0, 2, 0, 0])
        self.assertEqual(last(*begun, go(0), options(0)), [0, 0, 2, 0, 0, 1, 1, 2, 15, 1, 1, 3, 16])
        begun = (PAIR, loads(*[0] * 6), go(0, 2), trip(1))
        self.assertEqual(last(*begun, options(1)), [0, 0, 2, 0, 0])
        self.assertEqual(last(*begun, go(0, 0), options(1)), [0, 0, 3, 0, 0])
        self.assertEqual(len(last(*begun, go(0, 0), go(0, 0), options(1))), 21)

    def test_from_on(self):
        begun = (ONE, loads(*[0] * 6), go(3))
        self.assertEqual(last(*begun, options(0)), [0, 1, 2, 2, 5, 1, 2, 3, 6, 1, 2, 4, 7])
        self.assertEqual(last(*begun, go(4), options(0)), [0, 0, 1, 0, 0, 1, 2, 3, 6, 1, 2, 4, 7, 1, 2, 5, 8])
        self.assertEqual(last(*begun, go(4), go(5), options(0)), [0, 0, 1, 0, 0, 1, 2, 4, 7, 1, 2, 5, 8])
        self.assertEqual(last(*begun, go(2), options(0)), [0, 0, 1, 0, 0, 1, 2, 2, 5, 1, 2, 3, 6])

    def test_out(self):
        self.assertEqual(last(ONE, loads(0, 0), out(0, 0, 0), options(0)), [0, 0, 2, 0, 0])
        self.assertEqual(last(ONE, loads(0, 0), out(0, 1, 1), options(0)), [0, 0, 2, 0, 0, 1, 1, 2, 15, 1, 1, 3, 16])
        begun = (ONE, loads(0, 0, 0, 0), go(3))
        self.assertEqual(last(*begun, out(0, 1, 2), options(0)), [0, 0, 1, 0, 0])
        self.assertEqual(last(*begun, go(3), out(0, 2, 2), options(0)), [0, 0, 1, 0, 0])
        self.assertEqual(last(*begun, out(0, 1, 2), back(0), options(0)), [0, 1, 2, 2, 5, 1, 2, 3, 6, 1, 2, 4, 7])
        self.assertEqual(last(PAIR, loads(0), out(1, 0, 0), options(0)), last(PAIR, loads(0), options(0)))
        self.assertEqual(last(PAIR, loads(0), out(1, 0, 0), options(1)), [0, 0, 3, 0, 0])

    def test_whatever_the_load(self):
        self.assertEqual(last(ONE, loads(240), options(0)), last(ONE, loads(0), options(0)))

    def test_in_the_last_hour(self):
        begun = (ONE, loads(0, 0), go(2))
        self.assertEqual(last(*begun, options(0)), [0, 1, 2, 2, 5, 1, 2, 3, 6])
        self.assertEqual(ask(*begun, go(2), options(0), options(1), options(-1))[4:], [[-3], [-1], [-1]])

    def test_no_hour_to_come(self):
        self.assertEqual(ask(options(0), ONE, options(0), loads(), options(0), options(1)),
                         [[-1], [0, 1, 10], [-3], [0, 0], [-3], [-1]])

    def test_a_unit_that_is_not_there(self):
        for unit in (2, 3, 4) + WRONG:
            self.assertEqual(ask(PAIR, loads(0), options(unit), PAIR, options(unit))[2::2], [[-1], [-1]])
        self.assertEqual([part[0] for part in ask(PAIR, loads(0), options(0), options(1))[2:]], [0, 0])

    def test_sixty_levels(self):
        wide = units(line("a", 1, 60, start=1000, run=1000, per=1000, up=8, down=8, ramp=59))
        asked = last(wide, loads(0), options(0))
        self.assertEqual(asked[:5], [0, 0, 8, 0, 0])
        self.assertEqual(asked[5:], [number for level in range(1, 61) for number in (1, 1, level, 2000 + 1000 * level)])


class Read(unittest.TestCase):
    def told(self, text, *answer):
        self.assertEqual(ask(read(text)), [[0, *answer]], text)

    def test_right_texts(self):
        self.told(GOOD, 1, 1)
        self.told(GOOD + line("b"), 1, 2)
        self.told(" " + GOOD.replace(" ", "  "), 1, 1)
        self.told("".join(line(name, 1, 1) for name in "abc"), 1, 3)
        self.told("".join(line(name, 1, 1) for name in "abcd"), 1, 4)

    def test_more_modes_than_there_is_place_for(self):
        text = "".join(line(name, 1, 60, up=8, down=8) for name in "abcd")
        self.assertEqual(ask(units(text), read(text)), [[-5], [0, 1, 4]])

    def test_an_empty_text(self):
        self.told("", 0, 1)
        self.told("\n", 0, 1)
        self.told(" ", 0, 1)

    def test_the_first_wrong_line(self):
        lines = [line(name, 1, 1) for name in "abcd"]
        for wrong in ("\n", " \n", "x\n", line("c", 0, 1), line("c", 2, 1), line("c", 1, 1, ramp=61), line("C", 1, 1)):
            for place in range(4):
                text = "".join(lines[:place] + [wrong] + lines[place + 1:])
                self.told(text, 0, place + 1)
                self.told("".join([*lines[:place], wrong, "y\n"][:4]), 0, place + 1)
                # Without its end a last line with nothing in it is no line.
                if wrong != "\n":
                    self.told(text[:-1], 0, place + 1)

    def test_a_name_that_a_line_before_has(self):
        self.told(GOOD + GOOD, 0, 2)
        self.told(GOOD + line("b") + line("a", 1, 1), 0, 3)
        self.told(GOOD + line("b") + line("b", 1, 1) + line("a", 1, 1), 0, 3)
        self.told(GOOD + line("b") + line("c", 1, 1) + line("a", 1, 1), 0, 4)
        self.told(GOOD + line("a", 1, 1) + "x\n", 0, 2)
        self.told(GOOD + "x\n" + line("a", 1, 1), 0, 2)
        self.told(GOOD + line("aa"), 1, 2)
        self.told(GOOD + line("a", 1, 1)[:-1], 0, 2)

    def test_five_lines_and_more(self):
        lines = [line(name, 1, 1) for name in "abcdefgh"]
        self.told("".join(lines[:5]), 0, 5)
        self.told("".join(lines), 0, 5)
        self.told("".join(lines[:5])[:-1], 0, 5)
        self.told("".join(lines[:4]) + " ", 0, 5)
        self.told("".join(lines[:4]) + "\n", 0, 5)
        self.told("".join(lines[:4]) + "x\n", 0, 5)
        self.told("x\n" + "".join(lines[:4]), 0, 5)
        self.told(GOOD * 5, 0, 5)
        self.told("\n" * 4, 0, 1)
        self.told("\n" * 5, 0, 5)
        self.told("\n" * 1000, 0, 5)
        self.told("\n" * 4 + "x", 0, 5)

    def test_a_text_that_does_not_end_with_a_line_end(self):
        self.told(GOOD[:-1], 0, 1)
        self.told(GOOD + line("b")[:-1], 0, 2)
        self.told(GOOD + " ", 0, 2)
        self.told(GOOD + "x", 0, 2)
        self.told("x\n" + line("b")[:-1], 0, 1)
        self.told(GOOD + "x\n" + line("b")[:-1], 0, 2)
        four = "".join(line(name, 1, 1) for name in "abcd")
        self.told(four[:-1], 0, 4)
        self.told(four[:-1] + "x", 0, 4)
        self.told(four[:-2], 0, 4)
        self.told("x" * 1000, 0, 1)
        self.told(" " * 1000, 0, 1)

    def test_other_bytes(self):
        for byte in (0, 9, 11, 13, 128, 255):
            self.told(chr(byte), 0, 1)
            self.told(GOOD + chr(byte), 0, 2)
            self.told(GOOD[:-1] + chr(byte) + "\n", 0, 1)
            self.told(GOOD.replace(" to", chr(byte) + "to"), 0, 1)

    def test_a_text_tells_units_just_where_units_takes_it(self):
        tokens = GOOD.split()
        for place in range(len(tokens)):
            for token in ("", "x", "0", "1", "7", "9", "61", "1001", "05", "unit"):
                text = line("b", 1, 1) + " ".join(tokens[:place] + [token] + tokens[place + 1:]) + "\n"
                taken = ask(units(text))[0][0]
                self.told(text, *((1, 2) if taken == 0 else (0, 2)))

    def test_it_leaves_the_units(self):
        asked = ask(ONE, loads(2, 2), go(2), read(line("z", 1, 1)), PRINT, STATE, read("x"), PRINT, STATE)
        self.assertEqual(asked[4:6], asked[7:])
        self.assertEqual(asked[4], of(GOOD))
        self.assertEqual(asked[5], [0, 1, 15, 2, 1, 1, 2])


class Hour(unittest.TestCase):
    def test_the_load_and_who_is_available(self):
        day = (PAIR, loads(3, 0, 240), out(0, 1, 2), out(1, 2, 2))
        self.assertEqual(ask(*day, hour_of(0), hour_of(1), hour_of(2))[4:], [[0, 3, 1, 1], [0, 0, 0, 1], [0, 240, 0, 0]])

    def test_told_anew(self):
        asked = ask(PAIR, loads(3, 4), forecast(1, 7), hour_of(0), hour_of(1), out(1, 0, 1), hour_of(1), back(1), hour_of(1))
        self.assertEqual(asked[3:], [[0, 3, 1, 1], [0, 7, 1, 1], [0], [0, 7, 1, 0], [0], [0, 7, 1, 1]])
        self.assertEqual(last(PAIR, loads(3, 4), out(0, 0, 1), loads(5), hour_of(0)), [0, 5, 1, 1])

    def test_an_hour_gone_by(self):
        begun = (PAIR, loads(0, 4), out(0, 0, 1), go(0, 2))
        self.assertEqual(ask(*begun, hour_of(0), hour_of(1))[4:], [[0, 0, 0, 1], [0, 4, 0, 1]])
        self.assertEqual(ask(*begun, back(0), hour_of(0), hour_of(1))[5:], [[0, 0, 0, 1], [0, 4, 1, 1]])
        self.assertEqual(ask(*begun, forecast(0, 9), out(1, 0, 1), hour_of(0))[4:], [[-1], [-1], [0, 0, 0, 1]])
        self.assertEqual(ask(ONE, loads(2), go(2), hour_of(0), hour_of(1))[3:], [[0, 2, 1], [-1]])

    def test_an_hour_that_there_is_not(self):
        for hour in (2, 3, 48) + WRONG:
            self.assertEqual(last(PAIR, loads(1, 1), hour_of(hour)), [-1])
        self.assertEqual(ask(hour_of(0), PAIR, hour_of(0), loads(), hour_of(0)), [[-1], [0, 2, 65], [-1], [0, 0], [-1]])

    def test_48_hours(self):
        asked = ask(ONE, loads(*range(48)), *[hour_of(hour) for hour in range(49)])
        self.assertEqual(asked[2:], [[0, hour, 1] for hour in range(48)] + [[-1]])


if __name__ == "__main__":
    unittest.main()

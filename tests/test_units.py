"""Point 0, units: what a text of units is, and how many modes together there are."""

import unittest

from helper import LEAST, PLAN, ask, check, go, last, line, loads, units

GOOD = "unit a from 2 to 5 start 10 run 3 per 1 up 2 down 2 ramp 1\n"
TOKENS = GOOD.split()


def changed(place, token):
    """The good line with another token at a place."""
    return " ".join(TOKENS[:place] + [token] + TOKENS[place + 1:]) + "\n"


class Texts(unittest.TestCase):
    def taken(self, text, many, modes):
        self.assertEqual(ask(units(text)), [[0, many, modes]], text)

    def refused(self, text):
        self.assertEqual(ask(units(text)), [[-2]], text)

    def test_one_two_and_more_lines(self):
        self.taken(GOOD, 1, 10)
        self.taken(GOOD + line("b", 1, 3, up=1, down=4, ramp=2), 2, 70)
        self.taken(GOOD + line("b", 3, 3, up=1, down=1) + line("c", 4, 4, up=1, down=2), 3, 60)
        self.taken("".join(line(name, 1, 2, up=1, down=2) for name in "abcd"), 4, 256)

    def test_modes_of_one_unit(self):
        self.taken(line("a", 60, 60, up=1, down=1), 1, 2)
        self.taken(line("a", 1, 60, up=8, down=1), 1, 481)
        self.taken(line("a", 1, 60, up=1, down=8), 1, 68)
        self.taken(line("a", 1, 60, up=8, down=8), 1, 488)

    def test_just_600_modes_together_and_more(self):
        self.taken(line("a", 1, 23, up=1, down=1) + line("b", 1, 24, up=1, down=1), 2, 600)
        self.assertEqual(ask(units(line("a", 1, 13, up=1, down=1) + line("b", 1, 42, up=1, down=1))), [[-5]])
        self.assertEqual(ask(units("".join(line(n, 1, 60, up=8, down=8) for n in "abcd"))), [[-5]])
        self.taken("".join(line(n, 1, 2, up=2, down=1) for n in "abc") + line("d", 1, 3, up=1, down=1), 4, 500)

    def test_blanks(self):
        self.taken("   " + GOOD, 1, 10)
        self.taken(GOOD[:-1] + "   \n", 1, 10)
        self.taken("  " + "   ".join(TOKENS) + " \n" + " " + line("b")[:-1] + " \n", 2, 100)
        self.refused(GOOD.replace("from ", "from"))
        self.refused(GOOD.replace(" to", "to"))
        self.refused(GOOD.replace("start", "st art"))
        self.refused(GOOD.replace("10", "1 0"))

    def test_other_bytes_part_no_tokens(self):
        for byte in (0, 9, 11, 13, 31, 33, 160, 255):
            self.refused(GOOD.replace(" ", chr(byte)))
            self.refused(GOOD.replace(" from", chr(byte) + "from"))
            self.refused(chr(byte) + GOOD)
            self.refused(GOOD[:-1] + chr(byte) + "\n")

    def test_lines(self):
        self.refused("")
        self.refused("\n")
        self.refused(" \n")
        self.refused("\n" + GOOD)
        self.refused(GOOD + "\n")
        self.refused(GOOD + "\n" + line("b"))
        self.refused(GOOD + " ")
        self.refused(GOOD[:-1])
        self.refused(GOOD + line("b")[:-1])
        self.refused(GOOD.replace(" to", "\nto"))
        self.refused(GOOD[:-1] + " " + line("b"))

    def test_a_fifth_line(self):
        four = "".join(line(name, 1, 1, up=1, down=1) for name in "abcd")
        self.taken(four, 4, 16)
        self.refused(four + line("e", 1, 1, up=1, down=1))
        self.refused(four + line("e", 1, 1, up=1, down=1)[:-1])
        self.refused(four + "\n")
        self.refused(four + " ")

    def test_a_name_that_two_lines_have(self):
        self.refused(GOOD + line("a", 1, 1))
        self.refused(line("b", 1, 1, up=1) + line("a", 1, 1, up=1) + line("b", 2, 2, up=1))
        self.refused(line("b", 1, 1, up=1) + line("a", 1, 1, up=1) + line("a", 2, 2, up=1))
        self.taken(line("aa", 1, 1, up=1) + line("a", 1, 1, up=1) + line("ab", 1, 1, up=1), 3, 27)

    def test_names(self):
        for name in ("z", "az", "abcdefgh", "unit", "ramp", "from"):
            self.taken(changed(1, name), 1, 10)
        for name in ("abcdefghi", "A", "a1", "7", "a_", "a-b", "{", "`", "\xe4", "aB"):
            self.refused(changed(1, name))

    def test_words(self):
        for place in range(0, len(TOKENS), 2):
            for token in ("x", TOKENS[place] + "x", TOKENS[place][:-1], TOKENS[place].upper(), "7"):
                self.refused(changed(place, token))
            other = TOKENS[(place + 2) % len(TOKENS)]
            self.refused(changed(place, other))

    def test_too_few_and_too_many_tokens(self):
        for many in range(len(TOKENS)):
            self.refused(" ".join(TOKENS[:many]) + "\n")
        for place in range(len(TOKENS)):
            self.refused(" ".join(TOKENS[:place] + TOKENS[place + 1:]) + "\n")
        self.refused(GOOD[:-1] + " 1\n")
        self.refused(GOOD[:-1] + " ramp 1\n")
        self.refused("unit " + GOOD)

    def test_the_numbers_ranges(self):
        ranges = {3: (1, 5), 5: (2, 60), 7: (0, 1000), 9: (0, 1000), 11: (0, 1000), 13: (1, 8), 15: (1, 8), 17: (1, 60)}
        for place, (low, high) in ranges.items():
            self.assertEqual(last(units(changed(place, str(low))))[0], 0, place)
            self.assertEqual(last(units(changed(place, str(high))))[0], 0, place)
            self.refused(changed(place, str(low - 1)))
            self.refused(changed(place, str(high + 1)))
            self.refused(changed(place, "9999"))

    def test_least_and_greatest_level(self):
        self.taken(line("a", 60, 60), 1, 4)
        self.taken(line("a", 1, 1), 1, 4)
        self.refused(line("a", 0, 5))
        self.refused(line("a", 1, 61))
        self.refused(line("a", 61, 61))
        self.refused(line("a", 6, 5))

    def test_numbers_as_texts(self):
        for place in range(3, len(TOKENS), 2):
            right = TOKENS[place]
            for token in ("0" + right, "00" + right, "000" + right, "+" + right, "-" + right, right + ".",
                          right + "x", "x", "/", ":", "1/", "1:", "10000", "100000", "1" + "0" * 30, "00", "\xb2"):
                self.refused(changed(place, token))
        self.taken(changed(7, "0"), 1, 10)
        self.refused(changed(7, "00"))
        self.refused(changed(7, "0000"))
        self.refused(changed(7, "00000"))
        self.refused(changed(7, "00010"))

    def test_each_number_is_read(self):
        text = line("a", 3, 9, start=100, run=20, per=7, up=2, down=3, ramp=4)
        day = loads(*[0] * 9)
        self.assertEqual(last(units(text), day, check(7, 3, 0, 0, 0, 3, 7, 9, 9)), [0, 1, 586])


class Anew(unittest.TestCase):
    def test_all_begins_anew(self):
        first = [units(GOOD), loads(2, 2, 2), go(2), go(2)]
        again = ask(*first, units(line("b", 1, 9)), LEAST, PLAN, check(), go(1), loads(1), LEAST, go(1))
        self.assertEqual(again[4:], [[0, 1, 20], [0, 0], [0], [0, 1, 0], [-3], [0, 1], [0, 14], [0, 14]])

    def test_the_same_text_again_is_off_at_once(self):
        again = ask(units(GOOD), loads(2, 2, 2), go(2), units(GOOD), loads(0, 2), LEAST, go(0), go(2))
        self.assertEqual(again[3:], [[0, 1, 10], [0, 2], [0, 15], [0, 0], [0, 15]])

    def test_after_a_refusal_all_is_as_it_was(self):
        many = line("a", 1, 13, up=1, down=1) + line("b", 1, 42, up=1, down=1)
        for text, why in ((GOOD[:-1], -2), ("", -2), (many, -5)):
            plain = ask(units(GOOD), loads(2, 3, 4), go(3), LEAST, PLAN, go(3), go(4))
            mixed = ask(units(GOOD), units(text), loads(2, 3, 4), units(text), go(3), units(text), LEAST, PLAN,
                        units(text), go(3), go(4))
            self.assertEqual([part for part in mixed if part != [why]], plain)
            self.assertEqual(mixed.count([why]), 4)


if __name__ == "__main__":
    unittest.main()

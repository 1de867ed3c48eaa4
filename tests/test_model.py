"""Many lists of calls, right and wrong ones, held against the slow model."""

import random
import unittest

from helper import (ANCHOR, FAR, LEAST, PLAN, PRINT, REGRET, STATE, Model, ask, back, check, forecast, go, hour_of, line,
                    loads, model_units, options, out, prove, read, table, trip, units, worth)

# How often each of the calls 0 to 19 is made.
OFTEN = (1, 2, 3, 2, 1, 2, 2, 3, 5, 1, 2, 3, 2, 2, 4, 3, 1, 3, 2, 2)
NUMBERS = [number for number, often in enumerate(OFTEN) for again in range(often)]


def some_line(dice, name, widest):
    least = dice.randint(1, 5)
    return line(name, least, least + dice.randint(0, widest), dice.choice([0, 1, 5, 12]), dice.randint(0, 3),
                dice.randint(0, 3), dice.randint(1, 3), dice.randint(1, 3), dice.choice([1, 1, 2, 3, 60]))


def some_units(dice):
    many = dice.choice([1, 1, 2, 2, 3, 4])
    return "".join(some_line(dice, name, (0, 7, 3, 1, 0)[many]) for name in "abcd"[:many])


def some_number(dice, below):
    return dice.choice([-1, below, FAR, -FAR]) if dice.random() < 0.05 else dice.randint(0, max(below - 1, 0))


def some_levels(dice, model, hours):
    """A row that follows the moves for a while, and may then be wrong."""
    modes, row = model.modes, []
    for hour in range(model.now, min(model.now + hours, len(model.loads))):
        moves = list(model.moves(modes, hour))
        if not moves:
            break
        modes = dice.choice(moves)
        row.extend(mode[2] for mode in modes)
    if dice.random() < 0.5 and row:
        row[dice.randrange(len(row))] = dice.choice([0, 1, 2, 3, 4, 5, 6, 60, 61, -1])
    if dice.random() < 0.2:
        row = row[:dice.randint(0, len(row))]
    if dice.random() < 0.1:
        row = row + [0] * dice.randint(1, 4)
    return row


def some_text(dice):
    """A text that may be wrong in some places."""
    text = list(some_units(dice).encode())
    for change in range(dice.choice([0, 1, 1, 2])):
        place = dice.randrange(len(text))
        text[place:place + dice.randint(0, 1)] = dice.choice([[], [32], [48], [10], [97], [57], [0], [255]])
    return bytes(text).decode("latin-1")


def some_rows(dice, model, hour):
    """Two rows for prove: the tables of an hour and the next one, which may be changed a little."""
    if hour not in model.to_come():
        return [0], [0]
    rows = [model.table(hour)[1:], model.table(hour + 1)[1:]]
    for change in range(dice.choice([0, 1, 1, 2, 3])):
        row = dice.choice(rows)
        if row:
            place = dice.randrange(len(row))
            row[place] = dice.choice([row[place] - 1, row[place] + 1, -1, 0, FAR, -FAR])
    if dice.random() < 0.05:
        dice.choice(rows).append(0)
    if dice.random() < 0.05:
        rows[dice.randint(0, 1)] = rows[0][:-1]
    return rows


def some_call(dice, model):
    hours, many = len(model.loads), len(model.units)
    most = sum(unit[2] for unit in model.units)
    number = dice.choice(NUMBERS)
    if number == 0:
        return units(some_units(dice)) if dice.random() < 0.2 else units(some_units(dice)[:-1])
    if number == 1:
        return loads(*[some_number(dice, most + 1) for hour in range(dice.choice([0, 2, 3, 5, 7]))])
    if number == 2:
        return forecast(some_number(dice, hours), some_number(dice, most + 1))
    if number == 3:
        first = some_number(dice, hours)
        return out(some_number(dice, many), first, first + dice.choice([0, 0, 1, 2, -1]))
    if number == 7:
        return check(*some_levels(dice, model, 48))
    if number == 8:
        return go(*some_levels(dice, model, 1))
    if number == 11:
        hour = some_number(dice, hours)
        return prove(hour, *some_rows(dice, model, hour))
    if number == 18:
        return read(some_text(dice))
    if number in (4, 9, 17):
        return {4: back, 9: trip, 17: options}[number](some_number(dice, many))
    if number in (10, 15, 19):
        return {10: table, 15: worth, 19: hour_of}[number](some_number(dice, hours + (number == 10)))
    return {5: LEAST, 6: PLAN, 12: STATE, 13: ANCHOR, 14: REGRET, 16: PRINT}[number]


class AgainstTheModel(unittest.TestCase):
    def hold(self, seed):
        dice = random.Random(seed)
        model = Model()
        # Some lists go on for a while without units.
        calls = [units(some_units(dice) if seed % 10 else "")]
        told = [model.answer(calls[0])]
        low = sum(unit[1] for unit in model.units)
        calls.append(loads(*[dice.randint(0, low) for hour in range(dice.randint(1, 7))]))
        told.append(model.answer(calls[1]))
        for step in range(40):
            calls.append(some_call(dice, model))
            told.append(model.answer(calls[-1]))
        self.assertEqual(ask(*calls), told, calls)
        return zip(calls, told)

    def test_many_lists(self):
        seen = {}
        for seed in range(300):
            for call, answer in self.hold(seed):
                kinds = seen.setdefault(call[0], set())
                # These answers tell first whether something is so.
                kinds.add(tuple(answer[:2]) if call[0] in (7, 11, 15, 18) else answer[0])
                if call[0] == 14 and answer[0] == 0:
                    kinds.add("above" if answer[1] > 0 else "below" if answer[1] < 0 else "even")
        expected = {0: {0, -2, -5}, 1: {0, -1, -3}, 2: {0, -1}, 3: {0, -1}, 4: {0, -1}, 5: {0, -4}, 6: {0, -4},
                    7: {(0, 0), (0, 1), (-1,)}, 8: {0, -1, -3, -6}, 9: {0, -1, -4}, 10: {0, -1, -3},
                    11: {(0, 0), (0, 1), (-1,)}, 12: {0}, 13: {0, -4}, 14: {0, -3, -4, "above", "below", "even"},
                    15: {(0, 0), (0, 1), (-1,), (-4,)}, 16: {0}, 17: {0, -1, -3}, 18: {(0, 0), (0, 1)}, 19: {0, -1}}
        self.assertEqual(seen, expected)

    def test_many_texts(self):
        dice = random.Random(1)
        right = 0
        for seed in range(3000):
            written = some_text(dice)
            asked = ask(units(written), read(written))
            self.assertEqual(asked, [Model().answer(units(written)), Model().answer(read(written))], written)
            right += model_units(written) is not None
        self.assertGreater(right, 500)
        self.assertLess(right, 2500)


if __name__ == "__main__":
    unittest.main()

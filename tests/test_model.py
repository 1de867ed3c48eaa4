"""Many lists of calls, right and wrong ones, held against the slow model."""

import random
import unittest

from helper import (FAR, LEAST, PLAN, Model, ask, back, check, forecast, go, line, loads, model_units, out, trip, units)


def some_line(dice, name, widest):
    least = dice.randint(1, 5)
    return line(name, least, least + dice.randint(0, widest), dice.choice([0, 1, 5, 12]), dice.randint(0, 3),
                dice.randint(0, 3), dice.randint(1, 3), dice.randint(1, 3), dice.choice([1, 1, 2, 3, 60]))


def some_units(dice):
    many = dice.choice([1, 1, 2, 2, 3, 4])
    return "".join(some_line(dice, name, (0, 7, 3, 1, 0)[many]) for name in "abcd"[:many])


def some_number(dice, below):
    return dice.choice([-1, below, FAR, -FAR]) if dice.random() < 0.05 else dice.randint(0, max(below - 1, 0))


def some_levels(dice, model, hours):
    """A row that follows the moves for a while, and may then be wrong."""
    modes, row = model.modes, []
    for hour in range(model.now, min(model.now + hours, len(model.loads))):
        moves = list(model.moves(modes, hour))
        if not moves:
            break
        modes = dice.choice(moves)
        row.extend(mode[2] for mode in modes)
    if dice.random() < 0.5 and row:
        row[dice.randrange(len(row))] = dice.choice([0, 1, 2, 3, 4, 5, 6, 60, 61, -1])
    if dice.random() < 0.2:
        row = row[:dice.randint(0, len(row))]
    if dice.random() < 0.1:
        row = row + [0] * dice.randint(1, 4)
    return row


def some_call(dice, model):
    hours, many = len(model.loads), len(model.units)
    most = sum(unit[2] for unit in model.units)
    number = dice.choice([0, 1, 1, 2, 2, 2, 3, 3, 4, 5, 5, 6, 6, 7, 7, 7, 8, 8, 8, 8, 8, 9])
    if number == 0:
        return units(some_units(dice)) if dice.random() < 0.2 else units(some_units(dice)[:-1])
    if number == 1:
        return loads(*[some_number(dice, most + 1) for hour in range(dice.choice([0, 2, 3, 5, 7]))])
    if number == 2:
        return forecast(some_number(dice, hours), some_number(dice, most + 1))
    if number == 3:
        first = some_number(dice, hours)
        return out(some_number(dice, many), first, first + dice.choice([0, 0, 1, 2, -1]))
    if number == 7:
        return check(*some_levels(dice, model, 48))
    if number == 8:
        return go(*some_levels(dice, model, 1))
    return {4: back(some_number(dice, many)), 5: LEAST, 6: PLAN, 9: trip(some_number(dice, many))}[number]


class AgainstTheModel(unittest.TestCase):
    def hold(self, seed):
        dice = random.Random(seed)
        model = Model()
        calls = [units(some_units(dice))]
        told = [model.answer(calls[0])]
        low = sum(unit[1] for unit in model.units)
        calls.append(loads(*[dice.randint(0, low) for hour in range(dice.randint(1, 7))]))
        told.append(model.answer(calls[1]))
        for step in range(30):
            calls.append(some_call(dice, model))
            told.append(model.answer(calls[-1]))
        self.assertEqual(ask(*calls), told, calls)
        return told

    def test_many_lists(self):
        seen = {}
        for seed in range(500):
            for answer in self.hold(seed):
                seen[answer[0]] = seen.get(answer[0], 0) + 1
        self.assertEqual(sorted(seen), [-6, -5, -4, -3, -2, -1, 0])

    def test_many_texts(self):
        dice = random.Random(1)
        right = 0
        for seed in range(3000):
            text = list(some_units(dice).encode())
            for change in range(dice.choice([0, 1, 1, 2])):
                place = dice.randrange(len(text))
                text[place:place + dice.randint(0, 1)] = dice.choice([[], [32], [48], [10], [97], [57], [0], [255]])
            written = bytes(text).decode("latin-1")
            answer = ask(units(written))[0]
            self.assertEqual(answer, Model().answer(units(written)), written)
            right += model_units(written) is not None
        self.assertGreater(right, 500)
        self.assertLess(right, 2500)


if __name__ == "__main__":
    unittest.main()

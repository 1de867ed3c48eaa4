"""What the tests share: how calls are written, and a slow model of the document that they're held against."""

import functools
import itertools
import re

from boilerplans.desk import answers

FAR = 10 ** 18
LEAST = [5]
PLAN = [6]
STATE = [12]
ANCHOR = [13]
REGRET = [14]
PRINT = [16]


def line(name="a", least=2, greatest=5, start=10, run=3, per=1, up=2, down=2, ramp=1):
    return (f"unit {name} from {least} to {greatest} start {start} run {run} per {per}"
            f" up {up} down {down} ramp {ramp}\n")


def row_of(row):
    return [len(row)] + list(row)


def units(text):
    return [0] + row_of(text.encode("latin-1"))


def loads(*row):
    return [1] + row_of(row)


def forecast(hour, load):
    return [2, hour, load]


def out(unit, first, last):
    return [3, unit, first, last]


def back(unit):
    return [4, unit]


def check(*levels):
    return [7] + row_of(levels)


def go(*levels):
    return [8] + row_of(levels)


def trip(unit):
    return [9, unit]


def table(hour):
    return [10, hour]


def prove(hour, a, b):
    return [11, hour] + row_of(a) + row_of(b)


def worth(hour):
    return [15, hour]


def options(unit):
    return [17, unit]


def read(text):
    return [18] + row_of(text.encode("latin-1"))


def hour_of(hour):
    return [19, hour]


def parted(answered):
    parts = []
    place = 0
    while place < len(answered):
        end = place + 1 + answered[place]
        parts.append(answered[place + 1:end])
        place = end
    return parts


def joined(calls):
    return [number for call in calls for number in call]


def ask(*calls):
    """The answers to some calls, one list each."""
    return parted(answers(joined(calls)))


def last(*calls):
    return ask(*calls)[-1]


NUMBER = "(0|[1-9][0-9]{0,3})"
WORDS = ("from", "to", "start", "run", "per", "up", "down", "ramp")
LINE = re.compile(" *unit +([a-z]{1,8})" + "".join(f" +{word} +{NUMBER}" for word in WORDS) + " *")
LOWEST = (1, 1, 0, 0, 0, 1, 1, 1)
HIGHEST = (60, 60, 1000, 1000, 1000, 8, 8, 60)


def model_units(text):
    """The units of a text as tuples of a name and eight numbers, None if it tells none."""
    if not text.endswith("\n") or text.count("\n") > 4:
        return None
    found = []
    for part in text[:-1].split("\n"):
        match = LINE.fullmatch(part)
        if match is None:
            return None
        numbers = [int(digits) for digits in match.groups()[1:]]
        if any(not low <= n <= high for low, n, high in zip(LOWEST, numbers, HIGHEST)) or numbers[0] > numbers[1]:
            return None
        if match.group(1) in [unit[0] for unit in found]:
            return None
        found.append((match.group(1), *numbers))
    return tuple(found)


def model_wrong(text):
    """The number of the first wrong line of a text, 0 if it tells units."""
    lines = text.split("\n")
    if lines[-1] == "":
        lines = lines[:-1]
    if len(lines) > 4:
        return 5
    for many in range(1, len(lines) + 1):
        if model_units("\n".join(lines[:many]) + "\n") is None:
            return many
    return 0 if text.endswith("\n") else max(len(lines), 1)


class Model:
    """The document, word by word: modes are tuples of 1 (on) or 0 (off), the hours, the level."""

    def __init__(self):
        self.begin(())

    def begin(self, told):
        self.units = told
        self.modes = tuple((0, unit[7], 0) for unit in told)
        self.loads = []
        self.out = set()
        self.now = 0
        self.spent = 0
        self.mark = None
        self.forget()

    def forget(self):
        """To be called when the hours have changed: makes a new memory of the cheapest plans."""
        @functools.lru_cache(maxsize=None)
        def cheapest_from(hour, modes):
            if hour == len(self.loads):
                return 0, ()
            best = None
            for move in self.moves(modes, hour):
                rest = cheapest_from(hour + 1, move)
                if rest is not None:
                    whole = self.cost(modes, move) + rest[0]
                    if best is None or whole < best[0]:
                        best = whole, (move,) + rest[1]
            return best
        self.cheapest_from = cheapest_from

    def can_be(self, unit, mode, hour):
        low, high, up, down, ramp = (self.units[unit][k] for k in (1, 2, 6, 7, 8))
        is_on, hours, level = mode
        there = (unit, hour) not in self.out
        if not is_on:
            yield (0, min(hours + 1, down), 0)
            if there and hours == down:
                for reached in range(low, high + 1):
                    if reached <= low + ramp:
                        yield (1, 1, reached)
        elif not there:
            yield (0, 1, 0)
        else:
            if hours == up:
                yield (0, 1, 0)
            for reached in range(low, high + 1):
                if abs(reached - level) <= ramp:
                    yield (1, min(hours + 1, up), reached)

    def cost_of(self, unit, was, mode):
        told = self.units[unit]
        return told[4] + mode[2] * told[5] + (0 if was[0] else told[3]) if mode[0] else 0

    def cost(self, before, after):
        return sum(self.cost_of(unit, was, mode) for unit, (was, mode) in enumerate(zip(before, after)))

    def moves(self, modes, hour):
        every = [list(self.can_be(unit, mode, hour)) for unit, mode in enumerate(modes)]
        for move in itertools.product(*every):
            if sum(mode[2] for mode in move) >= self.loads[hour]:
                yield move

    def cheapest(self):
        """The cost and the moves of the plan, None if there's none."""
        return self.cheapest_from(self.now, self.modes)

    def all_modes(self):
        """All modes together, in order."""
        every = []
        for unit in self.units:
            off = [(0, hours, 0) for hours in range(1, unit[7] + 1)]
            on = [(1, hours, level) for hours in range(1, unit[6] + 1) for level in range(unit[1], unit[2] + 1)]
            every.append(off + on)
        return list(itertools.product(*every))

    def moved(self, modes, hour, levels):
        """The modes with these levels in an hour, None if a unit can't be at its level."""
        move = []
        for unit, (mode, level) in enumerate(zip(modes, levels)):
            fitting = [chosen for chosen in self.can_be(unit, mode, hour) if chosen[2] == level]
            if not fitting:
                return None
            move.append(fitting[0])
        return tuple(move)

    def check(self, levels):
        if any(not 0 <= level <= 60 for level in levels):
            return [-1]
        modes, cost, many = self.modes, 0, len(self.units)
        for hour in range(self.now, len(self.loads)):
            part, levels = levels[:many], levels[many:]
            if len(part) < many:
                return [0, 0, hour, 3]
            move = self.moved(modes, hour, part)
            if move is None:
                return [0, 0, hour, 1]
            if sum(part) < self.loads[hour]:
                return [0, 0, hour, 2]
            cost += self.cost(modes, move)
            modes = move
        return [0, 0, -1, 3] if levels else [0, 1, cost]

    def go(self, levels):
        if len(levels) != len(self.units) or any(not 0 <= level <= 60 for level in levels):
            return [-1]
        if self.now == len(self.loads):
            return [-3]
        move = self.moved(self.modes, self.now, levels)
        if move is None or sum(levels) < self.loads[self.now]:
            return [-6]
        cost = self.cost(self.modes, move)
        self.modes = move
        self.now += 1
        self.spent += cost
        return [0, cost]

    def tell(self, text):
        told = model_units(text)
        if told is None:
            return [-2]
        together = 1
        for unit in told:
            together *= unit[7] + unit[6] * (unit[2] - unit[1] + 1)
        if together > 600:
            return [-5]
        self.begin(told)
        return [0, len(told), together]

    def day(self, row):
        if len(row) > 48 or any(not 0 <= load <= 240 for load in row):
            return [-1]
        if not self.units or self.now:
            return [-3]
        self.loads, self.out, self.mark = list(row), set(), None
        self.forget()
        return [0, len(row)]

    def to_come(self):
        return range(self.now, len(self.loads))

    def change(self, number, given):
        """The calls forecast, out, back and trip."""
        self.forget()
        if number == 2:
            if given[0] not in self.to_come() or not 0 <= given[1] <= 240:
                return [-1]
            self.loads[given[0]] = given[1]
            return [0]
        if given[0] not in range(len(self.units)):
            return [-1]
        if number == 3:
            if given[1] not in self.to_come() or given[2] not in range(given[1], len(self.loads)):
                return [-1]
            self.out |= {(given[0], hour) for hour in range(given[1], given[2] + 1)}
        if number == 4:
            self.out -= {(given[0], hour) for hour in self.to_come()}
        if number == 9:
            if not self.modes[given[0]][0]:
                return [-4]
            self.modes = self.modes[:given[0]] + ((0, 1, 0),) + self.modes[given[0] + 1:]
        return [0]

    def table(self, hour):
        if not self.now <= hour <= len(self.loads):
            return [-1]
        if not self.units:
            return [-3]
        found = [self.cheapest_from(hour, modes) for modes in self.all_modes()]
        return [0] + [-1 if best is None else best[0] for best in found]

    def prove(self, hour, a, b):
        every = self.all_modes()
        if hour not in self.to_come() or len(a) != len(every) or len(b) != len(every):
            return [-1]
        later = dict(zip(every, b))
        for modes, told in zip(every, a):
            for move in self.moves(modes, hour):
                if not (later[move] < 0 or 0 <= told <= later[move] + self.cost(modes, move)):
                    return [0, 0]
        return [0, 1]

    def state(self):
        return [0, self.now, self.spent, len(self.loads)] + [number for mode in self.modes for number in mode]

    def anchor(self):
        best = self.cheapest()
        if best is None:
            return [-4]
        self.mark = (self.spent, best[0])
        return [0, best[0]]

    def regret(self):
        best = self.cheapest()
        if self.mark is None:
            return [-3]
        if best is None:
            return [-4]
        return [0, self.spent + best[0] - sum(self.mark)]

    def worth(self, hour):
        if hour not in self.to_come():
            return [-1]
        before = self.cheapest()
        if before is None:
            return [-4]
        self.loads[hour] += 1
        self.forget()
        after = self.cheapest()
        self.loads[hour] -= 1
        self.forget()
        return [0, 0] if after is None else [0, 1, after[0] - before[0]]

    def write(self):
        """The call print."""
        lines = []
        for unit in self.units:
            tokens = [f"{word} {number}" for word, number in zip(WORDS, unit[1:])]
            lines.append(f"unit {unit[0]} " + " ".join(tokens) + "\n")
        return [0] + list("".join(lines).encode())

    def options(self, unit):
        if unit not in range(len(self.units)):
            return [-1]
        if self.now == len(self.loads):
            return [-3]
        told = [0]
        for chosen in self.can_be(unit, self.modes[unit], self.now):
            told += [*chosen, self.cost_of(unit, self.modes[unit], chosen)]
        return told

    def read(self, text):
        wrong = model_wrong(text)
        return [0, 0, wrong] if wrong else [0, 1, text.count("\n")]

    def hour_of(self, hour):
        if hour not in range(len(self.loads)):
            return [-1]
        return [0, self.loads[hour]] + [int((unit, hour) not in self.out) for unit in range(len(self.units))]

    def answer(self, call):
        number = call[0]
        if number in (0, 18):
            return {0: self.tell, 18: self.read}[number](bytes(call[2:]).decode("latin-1"))
        if number in (1, 7, 8):
            return {1: self.day, 7: self.check, 8: self.go}[number](call[2:])
        if number in (5, 6):
            best = self.cheapest()
            if best is None:
                return [-4]
            return [0, best[0]] if number == 5 else [0] + [mode[2] for move in best[1] for mode in move]
        if number == 11:
            return self.prove(call[1], call[3:3 + call[2]], call[4 + call[2]:])
        if number in (12, 13, 14, 16):
            return {12: self.state, 13: self.anchor, 14: self.regret, 16: self.write}[number]()
        if number in (10, 15, 17, 19):
            return {10: self.table, 15: self.worth, 17: self.options, 19: self.hour_of}[number](call[1])
        return self.change(number, call[1:])

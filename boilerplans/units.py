"""What a unit is, and how a text tells units."""

BLANK = 32
LINE_END = 10
MOST_UNITS = 4
LONGEST_NAME = 8
MOST_DIGITS = 4
WORDS = ("unit", "from", "to", "start", "run", "per", "up", "down", "ramp")
# The ranges of the numbers behind all words but the first, which the name stands behind.
RANGES = ((1, 60), (1, 60), (0, 1000), (0, 1000), (0, 1000), (1, 8), (1, 8), (1, 60))


class Unit:
    """A boiler as its line tells it; the numbers stand as in the line."""

    def __init__(self, name, numbers):
        self.name = name
        self.least = numbers[0]
        self.greatest = numbers[1]
        self.start_cost = numbers[2]
        self.run_cost = numbers[3]
        self.level_cost = numbers[4]
        self.hours_on = numbers[5]
        self.hours_off = numbers[6]
        self.ramp = numbers[7]


def parts_of(row, between):
    """The parts of a row that such bytes stand between; the last is what stands behind all of these."""
    parts = []
    part = []
    for byte in row:
        if byte == between:
            parts.append(part)
            part = []
        else:
            part.append(byte)
    parts.append(part)
    return parts


def tokens_of(line):
    return [part for part in parts_of(line, BLANK) if len(part) > 0]


def bytes_of(word):
    return [ord(sign) for sign in word]


def is_name(token):
    return len(token) <= LONGEST_NAME and all([97 <= byte <= 122 for byte in token])


def number_of(token):
    """The number that a token tells, None if it tells none."""
    if len(token) > MOST_DIGITS or not all([48 <= byte <= 57 for byte in token]):
        return None
    if len(token) > 1 and token[0] == 48:
        return None
    number = 0
    for byte in token:
        number = number * 10 + byte - 48
    return number


def numbers_of(tokens):
    """The numbers that a unit's tokens tell, None if one of them is none or not in its range."""
    numbers = []
    for token, bounds in zip(tokens, RANGES):
        number = number_of(token)
        if number is None or number < bounds[0] or number > bounds[1]:
            return None
        numbers.append(number)
    return numbers


def unit_of(line):
    """The unit that a line tells, None if it tells none."""
    tokens = tokens_of(line)
    if len(tokens) != 2 * len(WORDS) or tokens[0::2] != [bytes_of(word) for word in WORDS]:
        return None
    name = tokens[1]
    numbers = numbers_of(tokens[3::2])
    if not is_name(name) or numbers is None or numbers[0] > numbers[1]:
        return None
    return Unit(name, numbers)


def units_of(text):
    """The units that a text tells, None if it tells none."""
    parts = parts_of(text, LINE_END)
    lines = parts[:-1]
    if len(parts[-1]) > 0 or len(lines) == 0 or len(lines) > MOST_UNITS:
        return None
    units = []
    for line in lines:
        unit = unit_of(line)
        if unit is None or unit.name in [known.name for known in units]:
            return None
        units.append(unit)
    return units

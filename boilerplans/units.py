"""What a unit is, and how a text tells units."""

BLANK = 32
LINE_END = 10
MOST_UNITS = 4
LONGEST_NAME = 8
MOST_DIGITS = 4
WORDS = ("unit", "from", "to", "start", "run", "per", "up", "down", "ramp")
# The ranges of the numbers behind all words but the first, which the name stands behind.
RANGES = ((1, 60), (1, 60), (0, 1000), (0, 1000), (0, 1000), (1, 8), (1, 8), (1, 60))


class Unit:
    """A boiler as its line tells it; the numbers stand as in the line."""

    def __init__(self, name, numbers):
        self.name = name
        self.least = numbers[0]
        self.greatest = numbers[1]
        self.start_cost = numbers[2]
        self.run_cost = numbers[3]
        self.level_cost = numbers[4]
        self.hours_on = numbers[5]
        self.hours_off = numbers[6]
        self.ramp = numbers[7]


def parts_of(row, between):
    """The parts of a row that such bytes stand between; the last is what stands behind all of these."""
    parts = []
    part = []
    for byte in row:
        if byte == between:
            parts.append(part)
            part = []
        else:
            part.append(byte)
    parts.append(part)
    return parts


def tokens_of(line):
    return [part for part in parts_of(line, BLANK) if len(part) > 0]


def bytes_of(word):
    return [ord(sign) for sign in word]


def is_name(token):
    return len(token) <= LONGEST_NAME and all([97 <= byte <= 122 for byte in token])


def number_of(token):
    """The number that a token tells, None if it tells none."""
    if len(token) > MOST_DIGITS or not all([48 <= byte <= 57 for byte in token]):
        return None
    if len(token) > 1 and token[0] == 48:
        return None
    number = 0
    for byte in token:
        number = number * 10 + byte - 48
    return number


def numbers_of(tokens):
    """The numbers that a unit's tokens tell, None if one of them is none or not in its range."""
    numbers = []
    for token, bounds in zip(tokens, RANGES):
        number = number_of(token)
        if number is None or number < bounds[0] or number > bounds[1]:
            return None
        numbers.append(number)
    return numbers


def unit_of(line):
    """The unit that a line tells, None if it tells none."""
    tokens = tokens_of(line)
    if len(tokens) != 2 * len(WORDS) or tokens[0::2] != [bytes_of(word) for word in WORDS]:
        return None
    name = tokens[1]
    numbers = numbers_of(tokens[3::2])
    if not is_name(name) or numbers is None or numbers[0] > numbers[1]:
        return None
    return Unit(name, numbers)


def lines_of(text):
    """The lines of a text; what stands behind the last line's end is one, too, if there is something."""
    parts = parts_of(text, LINE_END)
    return parts if len(parts[-1]) > 0 else parts[:-1]


def first_wrong_line(lines):
    """The number, from 1, of the first line that tells no unit or one whose name is known; 0 if none is wrong."""
    names = []
    for number, line in enumerate(lines, start=1):
        unit = unit_of(line)
        if unit is None or unit.name in names:
            return number
        names.append(unit.name)
    return 0


def wrong_line(text):
    """The number, from 1, of the line for which a text tells no units; 0 if it tells some."""
    lines = lines_of(text)
    if len(lines) == 0:
        return 1
    if len(lines) > MOST_UNITS:
        return MOST_UNITS + 1
    wrong = first_wrong_line(lines)
    if wrong == 0 and text[-1] != LINE_END:
        return len(lines)
    return wrong


def units_of(text):
    """The units that a text tells, None if it tells none."""
    if wrong_line(text) > 0:
        return None
    return [unit_of(line) for line in lines_of(text)]


def numbers_in(unit):
    """A unit's numbers, as they stand in its line."""
    return [
        unit.least,
        unit.greatest,
        unit.start_cost,
        unit.run_cost,
        unit.level_cost,
        unit.hours_on,
        unit.hours_off,
        unit.ramp,
    ]


def line_of(unit):
    """A unit's line in the one text."""
    line = []
    tokens = [unit.name] + [bytes_of(str(number)) for number in numbers_in(unit)]
    for word, token in zip(WORDS, tokens):
        line.extend(bytes_of(word) + [BLANK] + token + [BLANK])
    line[-1] = LINE_END
    return line


def text_of(units):
    """The one text of some units."""
    text = []
    for unit in units:
        text.extend(line_of(unit))
    return text

"""The desk: a line of calls comes in as one list, and all its answers go out as one list."""

from boilerplans.calls import CALLS
from boilerplans.plant import Plant

# By the calls' numbers: how many numbers a call has, and how many rows stand behind them.
FORMS = (
    (0, 1),
    (0, 1),
    (2, 0),
    (3, 0),
    (1, 0),
    (0, 0),
    (0, 0),
    (0, 1),
    (0, 1),
    (1, 0),
    (1, 0),
    (1, 2),
    (0, 0),
    (0, 0),
    (0, 0),
    (1, 0),
    (0, 0),
    (1, 0),
    (0, 1),
    (1, 0),
)


class Reader:
    """Goes through a list of calls and takes copies, so that nothing else gets hold of the list."""

    def __init__(self, calls):
        self.calls = calls
        self.place = 0

    def has_more(self):
        return self.place < len(self.calls)

    def take_number(self):
        number = self.calls[self.place]
        self.place += 1
        return number

    def take_numbers(self, many):
        numbers = self.calls[self.place:self.place + many]
        self.place += many
        return numbers


def read_given(reader, form):
    """What stands behind a call's number: its numbers, then its rows."""
    given = reader.take_numbers(form[0])
    for row in range(form[1]):
        given.append(reader.take_numbers(reader.take_number()))
    return given


def answers(calls):
    """For each call in the list how many numbers are answered, then these."""
    reader = Reader(calls)
    plant = Plant()
    answered = []
    while reader.has_more():
        number = reader.take_number()
        call = CALLS[number]
        answer = call(plant, read_given(reader, FORMS[number]))
        answered.append(len(answer))
        answered.extend(answer)
    return answered

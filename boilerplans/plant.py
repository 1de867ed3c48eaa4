"""The units, their modes and the day's hours, as the calls leave them."""

from boilerplans.modes import choices, hour_cost, level_in, off_mode


class Plant:
    """What one line of calls is about; at its beginning there are no units and no hours."""

    def __init__(self):
        self.begin([])

    def begin(self, units):
        self.units = units
        self.modes = [off_mode(unit, unit.hours_off) for unit in units]
        self.now = 0
        self.spent = 0
        self.ground = None
        self.set_day([])

    def set_day(self, loads):
        self.loads = list(loads)
        self.available = [[True] * len(self.units) for load in loads]
        self.tables = []
        self.marked = None

    def set_load(self, hour, load):
        self.loads[hour] = load
        self.forget_tables(hour)

    def set_available(self, unit, hours, available):
        for hour in hours:
            self.available[hour][unit] = available
            self.forget_tables(hour)

    def forget_tables(self, hour):
        # The tables stand from the day's end backwards; those of the hours behind this one don't depend on it.
        self.tables = self.tables[:len(self.loads) - hour]

    def hours_to_come(self):
        return list(range(self.now, len(self.loads)))

    def set_mark(self, cost):
        # Only the sum of what was spent and what was to come is ever asked for.
        self.marked = self.spent + cost

    def pass_hour(self, chosen, cost):
        self.modes = chosen
        self.spent += cost
        self.now += 1


def mode_at(unit, mode, available, level):
    """The mode in which a unit is at a level in the hour to come (0 is off), None if it can't be."""
    for chosen in choices(unit, mode, available):
        if level_in(unit, chosen) == level:
            return chosen
    return None


def modes_at(plant, modes, hour, levels):
    """The modes in which all units are at their levels in an hour, None if one of them can't be."""
    chosen = []
    for number, unit in enumerate(plant.units):
        mode = mode_at(unit, modes[number], plant.available[hour][number], levels[number])
        if mode is None:
            return None
        chosen.append(mode)
    return chosen


def move_cost(plant, modes, chosen):
    return sum([hour_cost(unit, before, mode) for unit, before, mode in zip(plant.units, modes, chosen)])

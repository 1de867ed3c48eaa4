"""A unit's modes, by their number in order: off for 1, 2 .. hours, then on for 1, 2 .. hours at each level."""


def levels_count(unit):
    return unit.greatest - unit.least + 1


def modes_count(unit):
    return unit.hours_off + unit.hours_on * levels_count(unit)


def off_mode(unit, hours):
    return min(hours, unit.hours_off) - 1


def on_mode(unit, hours, level):
    return unit.hours_off + (min(hours, unit.hours_on) - 1) * levels_count(unit) + level - unit.least


def is_on(unit, mode):
    return mode >= unit.hours_off


def hours_in(unit, mode):
    """For how many hours a unit in this mode has been on or off."""
    if is_on(unit, mode):
        return (mode - unit.hours_off) // levels_count(unit) + 1
    return mode + 1


def level_in(unit, mode):
    if is_on(unit, mode):
        return unit.least + (mode - unit.hours_off) % levels_count(unit)
    return 0


def told_mode(unit, mode):
    """A mode in three numbers: whether it's on, for how many hours, at which level."""
    return [1 if is_on(unit, mode) else 0, hours_in(unit, mode), level_in(unit, mode)]


def choices_from_off(unit, hours, available):
    chosen = [off_mode(unit, hours + 1)]
    if available and hours == unit.hours_off:
        highest = min(unit.least + unit.ramp, unit.greatest)
        chosen.extend([on_mode(unit, 1, level) for level in range(unit.least, highest + 1)])
    return chosen


def choices_from_on(unit, hours, level, available):
    if not available:
        return [off_mode(unit, 1)]
    chosen = []
    if hours == unit.hours_on:
        chosen.append(off_mode(unit, 1))
    lowest = max(level - unit.ramp, unit.least)
    highest = min(level + unit.ramp, unit.greatest)
    chosen.extend([on_mode(unit, hours + 1, reached) for reached in range(lowest, highest + 1)])
    return chosen


def choices(unit, mode, available):
    """The modes that a unit can be in in the hour to come, in order."""
    if is_on(unit, mode):
        return choices_from_on(unit, hours_in(unit, mode), level_in(unit, mode), available)
    return choices_from_off(unit, hours_in(unit, mode), available)


def hour_cost(unit, before, chosen):
    """What an hour in the chosen mode costs for a unit that was in another before."""
    if not is_on(unit, chosen):
        return 0
    cost = unit.run_cost + level_in(unit, chosen) * unit.level_cost
    if not is_on(unit, before):
        cost += unit.start_cost
    return cost

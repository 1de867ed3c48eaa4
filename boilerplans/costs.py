"""The costs to come, from all modes together at once.

All units' modes together are told by their place in order: by the first unit's mode, then the second's, and so on.
"""

from boilerplans.modes import level_in, levels_count, modes_count

# Above the cost of every plan and every number that can be told, so that the least of some costs is this
# or more just where none of them is a plan's.
NO_PLAN = 4000000000000000000


class Steps:
    """What goes for a unit in every hour, where the costs are in order by its mode first.

    Each of its modes then has as many costs behind each other as the other units have modes together: the width.
    """

    def __init__(self, unit, width):
        many = levels_count(unit)
        self.size = modes_count(unit)
        self.width = width
        self.off_end = unit.hours_off * width
        self.start_cost = unit.start_cost
        self.reach = min(unit.ramp, many - 1)
        self.on_costs = []
        for level in range(unit.least, unit.greatest + 1):
            self.on_costs.extend([unit.run_cost + level * unit.level_cost] * width)


class Ground:
    """What the costs to come are found with, as long as the units are the same."""

    def __init__(self, units):
        together = modes_together(units)
        self.steps = [Steps(unit, together // modes_count(unit)) for unit in units]
        self.levels = levels_together(units)


def modes_together(units):
    """How many modes together some units have."""
    together = 1
    for unit in units:
        together *= modes_count(unit)
    return together


def levels_together(units):
    """For all modes together the sum of their levels."""
    levels = [0]
    for unit in units:
        longer = []
        for level in levels:
            longer.extend([level + level_in(unit, mode) for mode in range(modes_count(unit))])
        levels = longer
    return levels


def place_of(ground, modes):
    place = 0
    for steps, mode in zip(ground.steps, modes):
        place = place * steps.size + mode
    return place


def modes_of(ground, place):
    modes = []
    for steps in reversed(ground.steps):
        modes.append(place % steps.size)
        place = place // steps.size
    return list(reversed(modes))


def turned(costs, size):
    """The costs in order by the last unit's mode first, then by the other units' modes as before."""
    in_order = []
    for mode in range(size):
        in_order.extend(costs[mode::size])
    return in_order


def lesser(some, others):
    """Place by place the lesser one of two rows' numbers, as long as both rows go."""
    return [one if one < other else other for one, other in zip(some, others)]


def least_of_many(costs, width, many):
    """For each place the least of so many costs: the one there and those one width, two widths and so on behind."""
    least = costs
    seen = 1
    while seen < many:
        # Twice as many are seen each time, so that wide ramps take hardly longer than narrow ones.
        more = min(seen, many - seen)
        least = lesser(least, least[more * width:])
        seen += more
    return least


def least_within_reach(steps, costs):
    """For each level the least of the costs at the levels that can be reached from it."""
    beyond = [NO_PLAN] * (steps.reach * steps.width)
    return least_of_many(beyond + costs + beyond, steps.width, 2 * steps.reach + 1)


def costs_of_on(steps, later):
    """For each number of hours on the costs at each level, with what the hour costs there."""
    costs = []
    many = len(steps.on_costs)
    for first in range(steps.off_end, len(later), many):
        costs.append([cost + to_come for cost, to_come in zip(steps.on_costs, later[first:first + many])])
    return costs


def costs_if_off(steps, later):
    """The costs from each number of hours off, where the unit stays off."""
    return later[steps.width:steps.off_end] + later[steps.off_end - steps.width:steps.off_end]


def costs_if_out(steps, later):
    """The least costs from each mode of a unit that isn't available, by those of the modes that it comes to."""
    on_modes = steps.size - steps.off_end // steps.width
    return costs_if_off(steps, later) + later[:steps.width] * on_modes


def costs_if_available(steps, later):
    """The least costs from each mode of a unit that's available, by those of the modes that it comes to."""
    width = steps.width
    reached = [least_within_reach(steps, costs) for costs in costs_of_on(steps, later)]
    # A start comes to the levels that can be reached from the least one.
    started = [cost + steps.start_cost for cost in reached[0][:width]]
    off = costs_if_off(steps, later)
    least = off[:-width] + lesser(off[-width:], started)
    for costs in reached[1:]:
        least.extend(costs)
    # Who is on for the least hours stays at these, and may go off.
    going_off = later[:width] * (len(steps.on_costs) // width)
    return least + lesser(reached[-1], going_off)


def least_over(costs, steps, available):
    """The least costs before the last unit in order chose its mode.

    That unit's mode comes first in the order of what is given back: once this was done for all units,
    from the last to the first, the order is again the one that it was.
    """
    later = turned(costs, steps.size)
    if available:
        return costs_if_available(steps, later)
    return costs_if_out(steps, later)


def costs_before(ground, load, available, later):
    """The costs to come at an hour, by those at the hour behind it.

    What a move costs is the sum of what each unit costs, and whether it meets the load is seen from the modes
    that it comes to: so the least is found unit by unit, without going through all moves.
    """
    costs = [cost if level >= load else NO_PLAN for cost, level in zip(later, ground.levels)]
    for number in range(len(ground.steps) - 1, -1, -1):
        costs = least_over(costs, ground.steps[number], available[number])
    return costs


def ground_for(plant):
    # Made just once for the same units, and only when it's asked for.
    if plant.ground is None:
        plant.ground = Ground(plant.units)
    return plant.ground


def costs_to_come(plant, hour):
    """The costs to come at an hour to come, or at the day's end, from all modes together."""
    ground = ground_for(plant)
    end = len(plant.loads)
    if len(plant.tables) == 0:
        plant.tables.append([0] * len(ground.levels))
    while len(plant.tables) <= end - hour:
        earlier = end - len(plant.tables)
        later = plant.tables[-1]
        plant.tables.append(costs_before(ground, plant.loads[earlier], plant.available[earlier], later))
    return plant.tables[end - hour]


def cost_from_here(plant, costs):
    """The cost from the modes that the units are in, None where there's no plan."""
    cost = costs[place_of(ground_for(plant), plant.modes)]
    return cost if cost < NO_PLAN else None


def least_cost(plant):
    """The cost to come now, None where there's no plan."""
    return cost_from_here(plant, costs_to_come(plant, plant.now))


def least_cost_with(plant, changed, load):
    """The cost to come now if an hour to come had another load, None where there'd be no plan."""
    ground = ground_for(plant)
    costs = costs_before(ground, load, plant.available[changed], costs_to_come(plant, changed + 1))
    for hour in range(changed - 1, plant.now - 1, -1):
        costs = costs_before(ground, plant.loads[hour], plant.available[hour], costs)
    return cost_from_here(plant, costs)


def is_proved(plant, hour, told, told_later):
    """Whether no move of the hour, with what is told of the modes that it comes to, costs less than is told."""
    later = [cost if cost >= 0 else NO_PLAN for cost in told_later]
    costs = costs_before(ground_for(plant), plant.loads[hour], plant.available[hour], later)
    return all([least >= NO_PLAN or 0 <= cost <= least for cost, least in zip(told, costs)])

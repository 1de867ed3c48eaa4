"""The costs to come, and the cheapest plan.

All units' modes together are told by their place in order: by the first unit's mode, then the second's, and so on.
"""

from boilerplans.modes import choices, hour_cost, level_in, modes_count

# Above the cost of every plan and every number that can be told, so that the least of some costs is this
# or more just where none of them is a plan's.
NO_PLAN = 4000000000000000000


class Ways:
    """What the units can become from each of their modes, and at what cost: the same in every hour."""

    def __init__(self, units):
        self.sizes = [modes_count(unit) for unit in units]
        self.levels = levels_together(units)
        self.if_available = [ways_of(unit, True) for unit in units]
        self.if_out = [ways_of(unit, False) for unit in units]


def modes_together(units):
    """How many modes together some units have."""
    together = 1
    for unit in units:
        together *= modes_count(unit)
    return together


def levels_together(units):
    """For all modes together the sum of their levels."""
    levels = [0]
    for unit in units:
        longer = []
        for level in levels:
            longer.extend([level + level_in(unit, mode) for mode in range(modes_count(unit))])
        levels = longer
    return levels


def ways_of(unit, available):
    """For each mode of a unit all that it can be then, in order, each with its cost."""
    ways = []
    for mode in range(modes_count(unit)):
        ways.append([(chosen, hour_cost(unit, mode, chosen)) for chosen in choices(unit, mode, available)])
    return ways


def ways_in(ways, available):
    """Each unit's ways in an hour in which these units are available."""
    return [
        if_available if can_run else if_out
        for if_available, if_out, can_run in zip(ways.if_available, ways.if_out, available)
    ]


def place_of(ways, modes):
    place = 0
    for size, mode in zip(ways.sizes, modes):
        place = place * size + mode
    return place


def modes_of(ways, place):
    modes = []
    for size in reversed(ways.sizes):
        modes.append(place % size)
        place = place // size
    return list(reversed(modes))


def least_over(costs, unit_ways):
    """The least costs before the last unit in order chose its mode.

    That unit's mode comes first in the order of what is given back: once this was done for all units,
    from the last to the first, the order is again the one that it was.
    """
    size = len(unit_ways)
    rows = [costs[place:place + size] for place in range(0, len(costs), size)]
    least = []
    for mode_ways in unit_ways:
        for row in rows:
            least.append(min([row[chosen] + cost for chosen, cost in mode_ways]))
    return least


def costs_before(ways, load, available, later):
    """The costs to come at an hour, by those at the hour behind it.

    What a move costs is the sum of what each unit costs, and whether it meets the load is seen from the modes
    that it comes to: so the least is found unit by unit, without going through all moves.
    """
    costs = [cost if level >= load else NO_PLAN for cost, level in zip(later, ways.levels)]
    for unit_ways in reversed(ways_in(ways, available)):
        costs = least_over(costs, unit_ways)
    return costs


def ways_for(plant):
    # Made just once for the same units, and only when it's asked for: with many modes it takes long.
    if plant.ways is None:
        plant.ways = Ways(plant.units)
    return plant.ways


def costs_to_come(plant, hour):
    """The costs to come at an hour to come, or at the day's end, from all modes together."""
    ways = ways_for(plant)
    end = len(plant.loads)
    if len(plant.tables) == 0:
        plant.tables.append([0] * len(ways.levels))
    while len(plant.tables) <= end - hour:
        earlier = end - len(plant.tables)
        later = plant.tables[-1]
        plant.tables.append(costs_before(ways, plant.loads[earlier], plant.available[earlier], later))
    return plant.tables[end - hour]


def least_cost(plant):
    """The cost to come now, None where there's no plan."""
    costs = costs_to_come(plant, plant.now)
    cost = costs[place_of(ways_for(plant), plant.modes)]
    return cost if cost < NO_PLAN else None


def moves_from(ways, modes, available):
    """All moves in order, each by its cost and the place that it comes to."""
    moves = [(0, 0)]
    for size, mode, unit_ways in zip(ways.sizes, modes, ways_in(ways, available)):
        longer = []
        for spent, place in moves:
            longer.extend([(spent + cost, place * size + chosen) for chosen, cost in unit_ways[mode]])
        moves = longer
    return moves


def first_cheapest(ways, moves, load, later):
    """The place that the first in order of the cheapest moves comes to, None where there's no plan."""
    least = NO_PLAN
    found = None
    for cost, place in moves:
        if ways.levels[place] >= load and cost + later[place] < least:
            least = cost + later[place]
            found = place
    return found


def plan_levels(plant):
    """The plan's levels, hour by hour and unit by unit; None where there's no plan."""
    ways = ways_for(plant)
    modes = plant.modes
    levels = []
    for hour in plant.hours_to_come():
        moves = moves_from(ways, modes, plant.available[hour])
        place = first_cheapest(ways, moves, plant.loads[hour], costs_to_come(plant, hour + 1))
        if place is None:
            return None
        modes = modes_of(ways, place)
        levels.extend([level_in(unit, mode) for unit, mode in zip(plant.units, modes)])
    return levels

"""The cheapest plan: of several the one whose moves come first in order."""

from boilerplans.costs import NO_PLAN, costs_to_come, ground_for, modes_of
from boilerplans.modes import choices, hour_cost, level_in, modes_count


def moves_from(units, modes, available):
    """All moves in order, each by its cost and the place that it comes to."""
    moves = [(0, 0)]
    for unit, mode, can_run in zip(units, modes, available):
        size = modes_count(unit)
        ways = [(hour_cost(unit, mode, chosen), chosen) for chosen in choices(unit, mode, can_run)]
        longer = []
        for spent, place in moves:
            longer.extend([(spent + cost, place * size + chosen) for cost, chosen in ways])
        moves = longer
    return moves


def first_cheapest(ground, moves, load, later):
    """The place that the first in order of the cheapest moves comes to, None where there's no plan."""
    least = NO_PLAN
    found = None
    for cost, place in moves:
        if ground.levels[place] >= load and cost + later[place] < least:
            least = cost + later[place]
            found = place
    return found


def plan_levels(plant):
    """The plan's levels, hour by hour and unit by unit; None where there's no plan."""
    ground = ground_for(plant)
    modes = plant.modes
    levels = []
    for hour in plant.hours_to_come():
        moves = moves_from(plant.units, modes, plant.available[hour])
        place = first_cheapest(ground, moves, plant.loads[hour], costs_to_come(plant, hour + 1))
        if place is None:
            return None
        modes = modes_of(ground, place)
        levels.extend([level_in(unit, mode) for unit, mode in zip(plant.units, modes)])
    return levels

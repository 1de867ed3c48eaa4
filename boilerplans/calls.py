"""The calls: each is handed the plant and what stands in the call, and gives back what is answered.

A refusal is found before anything is changed, the one nearest to 0 first.
"""

from boilerplans.costs import NO_PLAN, costs_to_come, is_proved, least_cost, least_cost_with, modes_together
from boilerplans.modes import choices, hour_cost, is_on, off_mode, told_mode
from boilerplans.plans import plan_levels
from boilerplans.plant import modes_at, move_cost
from boilerplans.units import lines_of, text_of, units_of, wrong_line

MOST_MODES = 600
MOST_HOURS = 48
MOST_LOAD = 240
MOST_LEVEL = 60

NOT_IN_RANGE = -1
NO_UNITS = -2
NOT_THE_TIME = -3
NOT_SO = -4
NO_PLACE = -5
NOT_TO_BE_DONE = -6

CANT_BE_AT_LEVEL = 1
LOAD_NOT_MET = 2
WRONG_LENGTH = 3

# What a table tells where there's no plan.
NO_COST = -1


def all_within(numbers, most):
    return all([0 <= number <= most for number in numbers])


def is_unit(plant, number):
    return 0 <= number < len(plant.units)


def is_to_come(plant, hour):
    return plant.now <= hour < len(plant.loads)


def units_call(plant, given):
    units = units_of(given[0])
    if units is None:
        return [NO_UNITS]
    together = modes_together(units)
    if together > MOST_MODES:
        return [NO_PLACE]
    plant.begin(units)
    return [0, len(units), together]


def loads_call(plant, given):
    loads = given[0]
    if len(loads) > MOST_HOURS or not all_within(loads, MOST_LOAD):
        return [NOT_IN_RANGE]
    if len(plant.units) == 0 or plant.now > 0:
        return [NOT_THE_TIME]
    plant.set_day(loads)
    return [0, len(loads)]


def forecast_call(plant, given):
    hour = given[0]
    load = given[1]
    if not is_to_come(plant, hour) or not 0 <= load <= MOST_LOAD:
        return [NOT_IN_RANGE]
    plant.set_load(hour, load)
    return [0]


def out_call(plant, given):
    unit = given[0]
    first = given[1]
    last = given[2]
    if not is_unit(plant, unit) or not is_to_come(plant, first) or not is_to_come(plant, last) or last < first:
        return [NOT_IN_RANGE]
    plant.set_available(unit, list(range(first, last + 1)), False)
    return [0]


def back_call(plant, given):
    unit = given[0]
    if not is_unit(plant, unit):
        return [NOT_IN_RANGE]
    plant.set_available(unit, plant.hours_to_come(), True)
    return [0]


def least_call(plant, given):
    cost = least_cost(plant)
    if cost is None:
        return [NOT_SO]
    return [0, cost]


def plan_call(plant, given):
    levels = plan_levels(plant)
    if levels is None:
        return [NOT_SO]
    return [0] + levels


def judge_plan(plant, levels):
    """1 and the cost of a plan with these levels; else 0, the first wrong hour and why."""
    size = len(plant.units)
    modes = plant.modes
    cost = 0
    place = 0
    for hour in plant.hours_to_come():
        part = levels[place:place + size]
        if len(part) < size:
            return [0, hour, WRONG_LENGTH]
        chosen = modes_at(plant, modes, hour, part)
        if chosen is None:
            return [0, hour, CANT_BE_AT_LEVEL]
        if sum(part) < plant.loads[hour]:
            return [0, hour, LOAD_NOT_MET]
        cost += move_cost(plant, modes, chosen)
        modes = chosen
        place += size
    if place < len(levels):
        return [0, -1, WRONG_LENGTH]
    return [1, cost]


def check_call(plant, given):
    levels = given[0]
    if not all_within(levels, MOST_LEVEL):
        return [NOT_IN_RANGE]
    return [0] + judge_plan(plant, levels)


def go_call(plant, given):
    levels = given[0]
    if len(levels) != len(plant.units) or not all_within(levels, MOST_LEVEL):
        return [NOT_IN_RANGE]
    if not is_to_come(plant, plant.now):
        return [NOT_THE_TIME]
    chosen = modes_at(plant, plant.modes, plant.now, levels)
    if chosen is None or sum(levels) < plant.loads[plant.now]:
        return [NOT_TO_BE_DONE]
    cost = move_cost(plant, plant.modes, chosen)
    plant.pass_hour(chosen, cost)
    return [0, cost]


def trip_call(plant, given):
    number = given[0]
    if not is_unit(plant, number):
        return [NOT_IN_RANGE]
    unit = plant.units[number]
    if not is_on(unit, plant.modes[number]):
        return [NOT_SO]
    plant.modes[number] = off_mode(unit, 1)
    return [0]


def table_call(plant, given):
    hour = given[0]
    if not plant.now <= hour <= len(plant.loads):
        return [NOT_IN_RANGE]
    if len(plant.units) == 0:
        return [NOT_THE_TIME]
    return [0] + [cost if cost < NO_PLAN else NO_COST for cost in costs_to_come(plant, hour)]


def prove_call(plant, given):
    hour = given[0]
    told = given[1]
    told_later = given[2]
    together = modes_together(plant.units)
    if not is_to_come(plant, hour) or len(told) != together or len(told_later) != together:
        return [NOT_IN_RANGE]
    return [0, 1 if is_proved(plant, hour, told, told_later) else 0]


def state_call(plant, given):
    answer = [0, plant.now, plant.spent, len(plant.loads)]
    for unit, mode in zip(plant.units, plant.modes):
        answer.extend(told_mode(unit, mode))
    return answer


def anchor_call(plant, given):
    cost = least_cost(plant)
    if cost is None:
        return [NOT_SO]
    plant.set_mark(cost)
    return [0, cost]


def regret_call(plant, given):
    if plant.marked is None:
        return [NOT_THE_TIME]
    cost = least_cost(plant)
    if cost is None:
        return [NOT_SO]
    return [0, plant.spent + cost - plant.marked]


def worth_call(plant, given):
    hour = given[0]
    if not is_to_come(plant, hour):
        return [NOT_IN_RANGE]
    cost = least_cost(plant)
    if cost is None:
        return [NOT_SO]
    with_more = least_cost_with(plant, hour, plant.loads[hour] + 1)
    if with_more is None:
        return [0, 0]
    return [0, 1, with_more - cost]


def print_call(plant, given):
    return [0] + text_of(plant.units)


def options_call(plant, given):
    number = given[0]
    if not is_unit(plant, number):
        return [NOT_IN_RANGE]
    if not is_to_come(plant, plant.now):
        return [NOT_THE_TIME]
    unit = plant.units[number]
    mode = plant.modes[number]
    answer = [0]
    for chosen in choices(unit, mode, plant.available[plant.now][number]):
        answer.extend(told_mode(unit, chosen) + [hour_cost(unit, mode, chosen)])
    return answer


def read_call(plant, given):
    text = given[0]
    wrong = wrong_line(text)
    if wrong > 0:
        return [0, 0, wrong]
    return [0, 1, len(lines_of(text))]


def hour_call(plant, given):
    hour = given[0]
    if not 0 <= hour < len(plant.loads):
        return [NOT_IN_RANGE]
    return [0, plant.loads[hour]] + [1 if available else 0 for available in plant.available[hour]]


# By the calls' numbers.
CALLS = (
    units_call,
    loads_call,
    forecast_call,
    out_call,
    back_call,
    least_call,
    plan_call,
    check_call,
    go_call,
    trip_call,
    table_call,
    prove_call,
    state_call,
    anchor_call,
    regret_call,
    worth_call,
    print_call,
    options_call,
    read_call,
    hour_call,
)

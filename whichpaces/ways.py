"""The ways to build a thing of others, each by the name of the function that builds it."""

from whichpaces.builds import hubs_joined, in_turn, lengthened, many_ties, side_by_side, turned_about
from whichpaces.hubs import hub_for, hub_machine
from whichpaces.making import machine_for
from whichpaces.numbersums import number_power, number_product, number_root, number_sum
from whichpaces.paces import pace
from whichpaces.tables import machine_of, table_of

# For each way the sort of what it is built of, and of what is built.
OF_TWO = {
    "side_by_side": ("table", "table"),
    "in_turn": ("table", "table"),
    "hubs_joined": ("rounds", "rounds"),
    "number_sum": ("number", "number"),
    "number_product": ("number", "number"),
}
WITH_MANY = {
    "many_ties": ("table", "table"),
    "lengthened": ("machine", "machine"),
    "number_power": ("number", "number"),
    "number_root": ("number", "number"),
}
OF_ONE = {
    "machine_of": ("table", "machine"),
    "table_of": ("machine", "table"),
    "turned_about": ("machine", "machine"),
    "pace": ("machine", "number"),
    "hub_machine": ("rounds", "machine"),
    "machine_for": ("number", "machine"),
    "hub_for": ("number", "rounds"),
}


def sorts_of_way(way):
    """The sort of what a WAY builds of, and of what it builds."""
    if way in OF_TWO:
        return OF_TWO[way]
    if way in WITH_MANY:
        return WITH_MANY[way]
    return OF_ONE[way]


def built_of_two(way, one, other):
    """What the WAY builds of two things."""
    if way == "side_by_side":
        return side_by_side(one, other)
    if way == "in_turn":
        return in_turn(one, other)
    if way == "hubs_joined":
        return hubs_joined(one, other)
    if way == "number_sum":
        return number_sum(one, other)
    return number_product(one, other)


def built_with_many(way, thing, many):
    """What the WAY builds of a thing and a many."""
    if way == "many_ties":
        return many_ties(thing, many)
    if way == "lengthened":
        return lengthened(thing, many)
    if way == "number_power":
        return number_power(thing, many)
    return number_root(thing, many)


def built_of_one(way, thing):
    """What the WAY builds of a thing alone."""
    if way == "machine_of":
        return machine_of(thing)
    if way == "table_of":
        return table_of(thing)
    if way == "turned_about":
        return turned_about(thing)
    if way == "pace":
        return pace(thing)
    if way == "hub_machine":
        return hub_machine(thing)
    if way == "machine_for":
        return machine_for(thing)
    return hub_for(thing)

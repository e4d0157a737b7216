"""Searching the layings of a text for the lawful ones that show something."""

from lastkind.layings import all_layings
from lastkind.stepping import owners_of, plan_of, run_plan, spots_of


def least_layings(text, wanted, shown):
    """From each of these things that some lawful laying shows to the least such laying.

    What shown(plan, owners, spots, things) returns is those of these things that one laying shows,
    if it is lawful. The steps are done only where that matters: this takes longer than to ask.
    """
    plan = plan_of(text.steps)
    left = list(wanted)
    least = {}
    for laying in all_layings(text):
        if not left:
            break
        spots = spots_of(text.names(), laying)
        owners = owners_of(text.places, spots)
        new = shown(plan, owners, spots, left)
        if new and run_plan(plan, owners, spots)[1] is None:
            for thing in new:
                least[thing] = laying
            left = [thing for thing in left if thing not in least]
    return least

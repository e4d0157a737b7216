"""Standing for a text: whether another text may be done in its place."""

from lastkind.errors import BadText
from lastkind.finds import finds
from lastkind.layings import layings_over
from lastkind.memory import FIRST
from lastkind.results import load_told, told_values, worths_of
from lastkind.stepping import owners_of, plan_of, run_plan, spots_of
from lastkind.steps import value_name
from lastkind.texts import Text


def stands(text, other):
    """None if the other text may stand for the text, else the least laying that shows a difference, and which."""
    if text.places != other.places:
        raise BadText("places", None)
    if text.pointers != other.pointers:
        raise BadText("pointers", None)
    plan, others = plan_of(text.steps), plan_of(other.steps)
    for laying in layings_over(text, text.steps + other.steps):
        spots = spots_of(text.names(), laying)
        owners = owners_of(text.places, spots)
        memory, wrong, _ = run_plan(plan, owners, spots)
        if wrong is None:
            found, wrong, _ = run_plan(others, owners, spots)
            word = "unlawful" if wrong is not None else difference(text, memory, other, found)
            if word is not None:
                return (laying, word)
    return None


def difference(text, memory, other, found):
    """The first difference between two texts that were done; None if there is none."""
    things = followed(memory.asks, found.asks)
    if things is None:
        return "unlawful"
    worths = worths_of(text.steps, memory)
    others = renamed(worths_of(other.steps, found), things)
    if told_values(text.steps, worths) != told_values(other.steps, others):
        return "told"
    for byte in {**memory.borne, **found.borne}:
        # What the bytes bore at first is what the asks of the text say, for the other one, too.
        if load_told(memory, worths, memory.asks, byte) != load_told(found, others, memory.asks, byte):
            return "end"
    return None


def followed(asks, others):
    """From the first ask for each thing of the others to that of the asks; None if an ask does not follow."""
    things = {}
    for byte in others.asked:
        known = asks.place_at(byte)
        kind, place, index = others.place_at(byte)
        if known is None or known[:2] != (kind, place):
            return None
        if things.setdefault(index, known[2]) != known[2]:
            return None
    return things


def renamed(worths, things):
    """The same values, with the things that came in under the indexes of other asks."""
    return {at: ("first", things[worth[1]]) if isinstance(worth, tuple) else worth for at, worth in worths.items()}


def forwarded(text):
    """The text in which writes and tells use a value straight where it is always the same write's."""
    sources = {}
    for read, source, word, _ in finds(text):
        if word == "always" and source != FIRST:
            sources[text.steps[read][1]] = text.steps[source][-1]
    return Text(text.places, text.pointers, tuple([forwarded_step(step, sources) for step in text.steps]))


def forwarded_step(step, sources):
    """A step that uses the value from which its own came along these sources, if it may."""
    worth = value_name(step)
    if worth is None:
        return step
    while worth in sources:
        worth = sources[worth]
    # A tell takes no integer.
    if step[0] == "tell" and not isinstance(worth, str):
        return step
    return (*step[:-1], worth)

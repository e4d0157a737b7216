"""Loops: rows of reads and writes that are done again and again, through pointers that move on."""

from lastkind.errors import BadLoop, NoStep
from lastkind.fitting import first_misfit, pointer_fits
from lastkind.memory import Memory
from lastkind.stepping import do_step, plan_of, rows_of
from lastkind.steps import WIDTH
from lastkind.words import is_within

MOST_POINTERS = 2
MOST_STEPS = 4

# Pointers with the distance None point so far apart that they do not touch in any round.
APART = 1000000


class Loop:
    """A valid loop; BadLoop of the first part, any value, that is wrong."""

    def __init__(self, pointers, steps, *, step, standing=()):
        if not are_pointers(pointers):
            raise BadLoop("pointers")
        if not are_steps(pointers, steps):
            raise BadLoop("steps")
        if not is_within(step, 1, WIDTH):
            raise BadLoop("step")
        if not are_standing(pointers, standing):
            raise BadLoop("standing")
        self.pointers = pointers
        self.steps = steps
        self.step = step
        self.standing = standing

    def __len__(self):
        return len(self.steps)


def lawful_rounds(loop, distance, most):
    """How many whole rounds, at most so many, are done before the first unlawful step."""
    plan = plan_of(loop.steps)
    memory = Memory({})
    for lap in range(most):
        spots = spots_in(loop, distance, lap)
        for index, (word, kind, spans) in enumerate(plan):
            if do_step(memory, lap * len(plan) + index, word, kind, rows_of(spans, spots)) is not None:
                return lap
    return most


def apart(loop, i, j, k):
    """Whether the step i and the step j of the k-th round after it meet, and the least distance at which.

    NoStep of the first of the indexes i and j, any values, that is none.
    """
    check_steps(loop, i, j)
    for distance in distances_of(loop, k):
        if touch_at(loop, i, j, k, distance) and lawful_rounds(loop, distance, k + 1) == k + 1:
            return (True, distance)
    return (False, None)


def nearest(loop, i, j):
    """The least k from 1 on for which the step i and the step j of the k-th round after it meet, or None."""
    check_steps(loop, i, j)
    # If there is such a k, there is one up to this bound [21].
    for k in range(1, 2 * (WIDTH // loop.step + 1) + 3):
        if apart(loop, i, j, k)[0]:
            return k
    return None


def ahead(loop, j):
    """How many rounds before its own the step j, any value, meets no step; None if it meets none in any."""
    found = [nearest(loop, i, j) for i in range(len(loop))]
    least = min([k for k in found if k is not None], default=None)
    return None if least is None else least - 1


def are_pointers(thing):
    """Whether any value is the pointers of a loop."""
    if not isinstance(thing, tuple) or not 1 <= len(thing) <= MOST_POINTERS:
        return False
    return all([pointer_fits((), thing[:at], pointer) for at, pointer in enumerate(thing)])


def are_steps(pointers, thing):
    """Whether any value is the steps of a round through these pointers."""
    if not isinstance(thing, tuple) or not 1 <= len(thing) <= MOST_STEPS:
        return False
    if first_misfit((), pointers, thing) is not None:
        return False
    return all([step[0] in ("read", "write") for step in thing])


def are_standing(pointers, thing):
    """Whether any value is a tuple of different ones of these pointers."""
    if not isinstance(thing, tuple):
        return False
    return all([name in pointers and name not in thing[:at] for at, name in enumerate(thing)])


def check_steps(loop, i, j):
    """NoStep of the first of two values that is no index of a step in a round."""
    for index in (i, j):
        if not is_within(index, 0, len(loop) - 1):
            raise NoStep(index)


def spots_in(loop, distance, lap):
    """The number of the byte to which each pointer points in one round."""
    begins = (0, APART if distance is None else distance)
    spots = {}
    for name, begin in zip(loop.pointers, begins):
        spots[name] = begin if name in loop.standing else begin + lap * loop.step
    return spots


def distances_of(loop, k):
    """The distances that may matter in k + 1 rounds, in order. At all greater ones the pointers never touch."""
    distances = [None]
    if len(loop.pointers) == MOST_POINTERS:
        distances.append(0)
        for far in range(1, k * loop.step + WIDTH):
            distances.extend([-far, far])
    return distances


def touch_at(loop, i, j, k, distance):
    """Whether the step i of the first and the step j of the k-th round after it use a byte that one writes."""
    if "write" not in (loop.steps[i][0], loop.steps[j][0]):
        return False
    plan = plan_of(loop.steps)
    here = rows_of(plan[i][2], spots_in(loop, distance, 0))[0]
    there = rows_of(plan[j][2], spots_in(loop, distance, k))[0]
    return any([byte in there for byte in here])

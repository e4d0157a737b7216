"""Heaps: names that touch, and how far each points behind the first one."""

from lastkind.steps import spans_of
from lastkind.words import size_of


def offsets_of(text):
    """The bytes of each name: a dict from the names to ascending lists of offsets."""
    return offsets_in(text, text.steps)


def offsets_in(text, steps):
    """The bytes of each name of a text if these steps stand in the place of its own."""
    offsets = {name: {} for name in text.names()}
    spans = [(name, 0, size_of(kind)) for name, kind in text.places]
    for step in steps:
        spans.extend(spans_of(step))
    for name, first, many in spans:
        for offset in range(first, first + many):
            offsets[name][offset] = True
    return {name: sorted(offsets[name]) for name in offsets}


def gaps_of(offsets):
    """For each pair of names, by how many bytes the second may point behind the first if they touch."""
    gaps = {}
    for one in offsets:
        for other in offsets:
            gaps[(one, other)] = sorted({here - there for here in offsets[one] for there in offsets[other]})
    return gaps


def heaps_of(first, others, gaps):
    """All heaps with this first name and any of the others: dicts from names to distances."""
    names = [first, *others]
    heaps = []
    grown = {(0, *[None for _ in others]): True}
    while grown:
        heaps.extend(list(grown))
        longer = {}
        for heap in grown:
            for found in longer_heaps(names, heap, gaps):
                longer[found] = True
        grown = longer
    return [distances_in(names, heap) for heap in heaps]


def longer_heaps(names, heap, gaps):
    """The heaps with one more name, which touches one of those that lie in this heap."""
    longer = []
    for k, name in enumerate(names):
        if heap[k] is None:
            for distance in reach_of(name, distances_in(names, heap), gaps):
                longer.append((*heap[:k], distance, *heap[k + 1:]))
    return longer


def distances_in(names, heap):
    """A heap as a dict from the names that lie in it to their distances."""
    return {name: distance for name, distance in zip(names, heap) if distance is not None}


def reach_of(name, distances, gaps):
    """The ascending list of the distances at which a name touches one of those that lie there."""
    return sorted({distances[other] + gap for other in distances for gap in gaps[(other, name)]})


def hangs_together(distances, gaps):
    """Whether touching connects all names of a heap, a dict from names to distances."""
    loose = dict(distances)
    tied = {}
    found = list(distances)[:1]
    while found:
        for name in found:
            tied[name] = loose.pop(name)
        found = [name for name in loose if loose[name] in reach_of(name, tied, gaps)]
    return not loose

"""Finds: what the reads of a text find under its lawful layings."""

from lastkind.layings import lawful_runs
from lastkind.memory import FIRST


def finds(text):
    """For each read and each source the word, and the least lawful laying under which it finds it."""
    runs = lawful_runs(text)
    rows = []
    for index, step in enumerate(text.steps):
        if step[0] == "read":
            rows.extend([row_of(runs, index, source) for source in sources_of(text, index)])
    return rows


def sources_of(text, index):
    """What the read at the index might find: things that came in, or that of an earlier write."""
    return [FIRST, *[k for k in range(index) if text.steps[k][0] == "write"]]


def row_of(runs, index, source):
    """How often the read at the index finds this source, and the least laying under which it does."""
    found = [laying for laying, memory in runs if memory.sources[index] == source]
    if not found:
        return (index, source, "never", None)
    return (index, source, "always" if len(found) == len(runs) else "sometimes", found[0])

"""Evictions: which jobs must give way to a gang."""

from gangbooks.fitting import Shortage, fit


def spare(takes, gang, span, running, barred=()):
    """Return the lists of takes that are not kept, each with its Shortage, or the Shortage without all lists."""
    # Whether there is a placing does not depend on the word.
    alone = fit(takes, gang, span, "first", barred)
    if isinstance(alone, Shortage):
        return alone
    kept = takes
    out = []
    for at, rows in enumerate(running):
        found = fit(kept + rows, gang, span, "first", barred)
        if isinstance(found, Shortage):
            out.append((at, found))
        else:
            kept = kept + rows
    return out

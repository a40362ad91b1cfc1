"""Lists of kinds of holders, gone through one by one, and claims about them judged by the document's words."""

from itertools import product

from reissue.times import earliest
from reissue.waits import least_wait

from judges import is_trace


def rest_along(behaviors, waits, kinds):
    """Return the sum of the waits and of the lifetimes between the ends of a list of kinds, None if there is none."""
    found = sum(waits[one][other] for one, other in zip(kinds, kinds[1:]))
    for kind in kinds[1:-1]:
        lifetime = earliest(behaviors[kind])[1]
        if lifetime == "never":
            return None
        found += lifetime
    return found


def bad_chains(behaviors, waits, longest):
    """Yield all lists of at most so many kinds after whose waits something can be misdelivered to the last one."""
    count = len(behaviors)
    needs = [[least_wait(one, other) for other in behaviors] for one in behaviors]
    for size in range(2, longest + 1):
        for kinds in product(range(count), repeat=size):
            rest, needed = rest_along(behaviors, waits, kinds), needs[kinds[0]][kinds[-1]]
            if rest is not None and (needed == "endless" or rest < needed):
                yield list(kinds)


def are_safe_chains(behaviors, waits):
    """Return whether there is no such list: those in which no kind comes twice in between are enough."""
    return next(bad_chains(behaviors, waits, len(behaviors) + 2), None) is None


def entry_found_by_trying(behaviors, waits, i, j):
    """Return the least number in the place of waits[i][j] with which there is no such list, or "endless"."""
    def safe_with(number):
        rows = [list(row) for row in waits]
        rows[i][j] = number
        return are_safe_chains(behaviors, rows)

    if not safe_with(10 ** 6):
        return "endless"
    number = 0
    while not safe_with(number):
        number += 1
    return number


def is_bad_row(behaviors, waits, claim):
    """Return whether the claim is a tuple (kinds, trace) as the document describes it."""
    if claim.__class__ is not tuple or len(claim) != 2 or claim[0].__class__ is not list or len(claim[0]) < 2:
        return False
    kinds, shown = claim
    if any(kind.__class__ is not int or kind not in range(len(behaviors)) for kind in kinds):
        return False
    rest = rest_along(behaviors, waits, kinds)
    return rest is not None and is_trace(behaviors[kinds[0]], behaviors[kinds[-1]], rest, shown)

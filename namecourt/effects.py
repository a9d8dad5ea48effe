"""What the rulings in force say at a day.

An effect is (kind, n, m, case): a proposal of a ruling in force, and that ruling's key.
"""

from namecourt.force import forces_at
from namecourt.members import is_day
from namecourt.refusals import OUT_OF_RANGE, OVER_ITSELF
from namecourt.texts import CONSERVE, FIX, REJECT, RESTORE, SUPPRESS, SUPPRESS_WHOLLY


def effects_at(court, d):
    """The effects in force at d, in the order of publishing and of the texts."""
    forces = forces_at(court, d)
    effects = []
    for key in forces:
        if forces[key] == 1:
            effects.extend([(kind, n, m, key) for kind, n, m in court.cases[key].proposals])
    return effects


def last_about(court, d, kinds, n):
    """The last effect in force at d of some kinds about n; None if there's none."""
    for effect in reversed(effects_at(court, d)):
        if effect[0] in kinds and effect[1] == n:
            return effect
    return None


def status(court, d, n):
    """Call status: whether the name n is restored, suppressed or suppressed wholly, and by which case."""
    if not is_day(d):
        return [OUT_OF_RANGE]
    effect = last_about(court, d, (RESTORE, SUPPRESS, SUPPRESS_WHOLLY), n)
    if effect is None:
        return [0, 0, 0]
    return [0, effect[0], effect[3]]


def over(court, d, n, m):
    """Call over: which one of two names goes over the other, and by which case."""
    if not is_day(d):
        return [OUT_OF_RANGE]
    if n == m:
        return [OVER_ITSELF]
    for kind, winner, loser, key in reversed(effects_at(court, d)):
        if kind == CONSERVE and (winner, loser) == (n, m):
            return [0, 1, key]
        if kind == CONSERVE and (winner, loser) == (m, n):
            return [0, 2, key]
    return [0, 0, 0]


def fixed_at(court, d, n):
    """Call 22: what is fixed for the name n by an effect of kind 4, and by which case."""
    if not is_day(d):
        return [OUT_OF_RANGE]
    effect = last_about(court, d, (FIX,), n)
    if effect is None:
        return [0, 0, 0]
    return [0, effect[2], effect[3]]


def rejected(court, d, w):
    """Call rejected: which case rejects the work w."""
    if not is_day(d):
        return [OUT_OF_RANGE]
    effect = last_about(court, d, (REJECT,), w)
    if effect is None:
        return [0, 0]
    return [0, effect[3]]


def statuses_at(court, d):
    """The last effect about each name's status: name to (kind, case)."""
    statuses = {}
    for kind, n, m, key in effects_at(court, d):
        if kind in (RESTORE, SUPPRESS, SUPPRESS_WHOLLY):
            statuses[n] = (kind, key)
    return statuses


def tell_index(court, d):
    """Call index: the names suppressed at d, by rising keys."""
    if not is_day(d):
        return [OUT_OF_RANGE]
    statuses = statuses_at(court, d)
    told = [0]
    for name in sorted(statuses):
        if statuses[name][0] != RESTORE:
            told.extend([name, statuses[name][0], statuses[name][1]])
    return told


def conserved(court, d):
    """Call conserved: the last effect on each two names of which one is conserved over the other."""
    if not is_day(d):
        return [OUT_OF_RANGE]
    spoken_of = {}
    kept = []
    for kind, n, m, key in reversed(effects_at(court, d)):
        names = (min(n, m), max(n, m))
        if kind == CONSERVE and names not in spoken_of:
            spoken_of[names] = True
            kept.append((n, m, key))
    told = [0]
    for triple in reversed(kept):
        told.extend(triple)
    return told

"""Which rulings are in force at a day, and why."""

from namecourt.members import is_day
from namecourt.refusals import NOT_THERE, OUT_OF_RANGE
from namecourt.texts import ANNUL


def published_by(court, d):
    """The keys of the rulings published by d, in the order of publishing."""
    return [key for key in court.rulings if court.cases[key].published <= d]


def annulled_by(court, key):
    """The keys that a ruling annuls."""
    return [proposal[1] for proposal in court.cases[key].proposals if proposal[0] == ANNUL]


def forces_at(court, d):
    """The rulings published by d, in the order of publishing: key to 1 if it's in force at d, else 0."""
    published = published_by(court, d)
    annulled = {}
    # Only later rulings annul one, so going back each is settled when its turn comes.
    for key in reversed(published):
        if key not in annulled:
            for earlier in annulled_by(court, key):
                annulled[earlier] = True
    forces = {}
    for key in published:
        forces[key] = 0 if key in annulled else 1
    return forces


def those_that_annul(court, forces, key):
    """The rulings among forces that annul a ruling, in the order of publishing."""
    return [later for later in forces if key in annulled_by(court, later)]


def told_pairs(forces, wanted):
    """Those of the rulings that are wanted, in the order of publishing: the key, and 1 or 0."""
    told = []
    for key in forces:
        if key in wanted:
            told.extend([key, forces[key]])
    return told


def tell_rulings(court, d):
    """Call rulings: each ruling published by d, and whether it's in force."""
    if not is_day(d):
        return [OUT_OF_RANGE]
    forces = forces_at(court, d)
    return [0] + told_pairs(forces, forces)


def in_force(court, d, key):
    """Call inForce: 1 if the ruling is in force at d, else 0."""
    if not is_day(d):
        return [OUT_OF_RANGE]
    forces = forces_at(court, d)
    if key not in forces:
        return [NOT_THERE]
    return [forces[key]]


def reasons_of(court, forces, key):
    """The rulings that are told next, from one that is told."""
    annulling = those_that_annul(court, forces, key)
    if forces[key] == 1:
        return annulling
    return [later for later in annulling if forces[later] == 1][-1:]


def because(court, d, key):
    """Call because: the rulings that show why one is in force at d, or isn't."""
    if not is_day(d):
        return [OUT_OF_RANGE]
    forces = forces_at(court, d)
    if key not in forces:
        return [NOT_THERE]
    reached = {key: True}
    # What is told next is always later, so one walk in the order of publishing reaches all.
    for ruling in forces:
        if ruling in reached:
            for reason in reasons_of(court, forces, ruling):
                reached[reason] = True
    return [0] + told_pairs(forces, reached)


def claims_of(row):
    """The pairs of a row: key to number; None if it isn't pairs, or a key comes twice."""
    if len(row) % 2 != 0:
        return None
    claims = {}
    for place in range(0, len(row), 2):
        if row[place] in claims:
            return None
        claims[row[place]] = row[place + 1]
    return claims


def is_borne_out(court, forces, claims, key):
    """Whether the claims on those that annul a ruling bear out the claim on it."""
    if key not in forces:
        return False
    # A ruling without a claim is None here, which is neither 0 nor 1.
    against = [claims.get(later) for later in those_that_annul(court, forces, key)]
    if claims[key] == 1:
        return all([claim == 0 for claim in against])
    return claims[key] == 0 and 1 in against


def check(court, d, key, v, row):
    """Call check: 1 if the row's pairs show that the ruling is in force (v 1) or isn't (v 0), else 0."""
    if not is_day(d):
        return [OUT_OF_RANGE]
    forces = forces_at(court, d)
    if key not in forces:
        return [NOT_THERE]
    claims = claims_of(row)
    if claims is None or claims.get(key) != v:
        return [0]
    return [1 if all([is_borne_out(court, forces, claims, claimed) for claimed in claims]) else 0]

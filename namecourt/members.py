"""The clock, and who is in office and presides."""

from namecourt.court import is_key
from namecourt.refusals import BEFORE_TODAY, FULL, NOT_THERE, OUT_OF_RANGE, THERE_ALREADY, WRONG_KEY

LAST_DAY = 474814
MOST_MEMBERS = 30


def is_day(number):
    """Whether a number is a day that the clock may reach."""
    return 0 <= number <= LAST_DAY


def go_to_day(court, d):
    """Call day: today is d, and those whose last day is over leave."""
    if not is_day(d):
        return [OUT_OF_RANGE]
    if d < court.today:
        return [BEFORE_TODAY]
    court.today = d
    for member in list(court.last_days):
        if court.last_days[member] < d:
            end_office(court, member)
    return [0]


def end_office(court, member):
    """Takes a member out of office, and out of presiding."""
    court.last_days.pop(member)
    if court.presiding == member:
        court.presiding = 0


def seat(court, member, last):
    """Call seat: the member is in office up to the last day."""
    if not is_key(member):
        return [WRONG_KEY]
    if not is_day(last):
        return [OUT_OF_RANGE]
    if last < court.today:
        return [BEFORE_TODAY]
    if member in court.last_days:
        return [THERE_ALREADY]
    if len(court.last_days) >= MOST_MEMBERS:
        return [FULL]
    court.last_days[member] = last
    return [0]


def leave(court, member):
    """Call leave: the member is out of office from now on."""
    if member not in court.last_days:
        return [NOT_THERE]
    end_office(court, member)
    return [0]


def preside(court, member):
    """Call preside: the member presides, nobody else."""
    if member not in court.last_days:
        return [NOT_THERE]
    court.presiding = member
    return [0]


def tell_office(court):
    """Call office: who presides, then who is in office and up to which day."""
    told = [0, court.presiding]
    for member in sorted(court.last_days):
        told.extend([member, court.last_days[member]])
    return told

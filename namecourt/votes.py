"""The first and the second vote on a case."""

from namecourt.court import ADOPTED, BEFORE_SECOND_VOTE, COMMENTS, FIRST_VOTE, REJECTED, SECOND_VOTE
from namecourt.refusals import NOT_THERE, OUT_OF_RANGE, THERE_ALREADY, WRONG_PHASE, WRONG_TIME

VOTE_DAYS = 90
DAYS_FROM_PETITION = 180
DAYS_FROM_COMMENT = 30
FEWEST_BALLOTS = 3

FOR = 1
AGAINST = 2
NEITHER = 3


def is_too_early(court, case):
    """Whether comments must stay possible for some days yet."""
    if court.today - case.opened < DAYS_FROM_PETITION:
        return True
    return case.comments > 0 and court.today - case.last_comment < DAYS_FROM_COMMENT


def open_vote(court, key):
    """Call openVote: the first vote, or the second one, without ballots."""
    case = court.cases.get(key)
    if case is None:
        return [NOT_THERE]
    if case.phase not in (COMMENTS, BEFORE_SECOND_VOTE):
        return [WRONG_PHASE]
    if case.phase == COMMENTS and is_too_early(court, case):
        return [WRONG_TIME]
    case.phase = FIRST_VOTE if case.phase == COMMENTS else SECOND_VOTE
    case.closing = court.today + VOTE_DAYS
    case.ballots = {}
    return [case.closing]


def ballot(court, key, member, v):
    """Call ballot: a member in office says 1 for, 2 against, 3 neither."""
    case = court.cases.get(key)
    if case is None:
        return [NOT_THERE]
    if case.phase not in (FIRST_VOTE, SECOND_VOTE):
        return [WRONG_PHASE]
    if court.today > case.closing:
        return [WRONG_TIME]
    if member not in court.last_days:
        return [NOT_THERE]
    if v not in (FOR, AGAINST, NEITHER):
        return [OUT_OF_RANGE]
    if member in case.ballots:
        return [THERE_ALREADY]
    case.ballots[member] = v
    return [0]


def all_have_voted(court, case):
    """Whether every member in office has cast a ballot in the last vote."""
    return all([member in case.ballots for member in court.last_days])


def ballots_cast(case, v):
    """How many ballots of the last vote say v."""
    return len([member for member in case.ballots if case.ballots[member] == v])


def outcome(court, case):
    """The phase that the vote under way leads to."""
    f = ballots_cast(case, FOR)
    a = ballots_cast(case, AGAINST)
    if f + a < FEWEST_BALLOTS:
        return REJECTED
    if case.phase == FIRST_VOTE:
        return first_outcome(f, a)
    if f > a:
        return ADOPTED
    # Nobody presiding is 0, and no ballot is of a member 0.
    if f == a and case.ballots.get(court.presiding, 0) == FOR:
        return ADOPTED
    return REJECTED


def first_outcome(f, a):
    """What f ballots for and a against, enough of them, lead to in a first vote."""
    if 3 * f >= 2 * (f + a):
        return ADOPTED
    if f > a:
        return BEFORE_SECOND_VOTE
    return REJECTED


def close(court, key):
    """Call close: the vote ends."""
    case = court.cases.get(key)
    if case is None:
        return [NOT_THERE]
    if case.phase not in (FIRST_VOTE, SECOND_VOTE):
        return [WRONG_PHASE]
    if court.today <= case.closing and not all_have_voted(court, case):
        return [WRONG_TIME]
    case.phase = outcome(court, case)
    return [case.phase]


def tally(court, key):
    """Call tally: the ballots of the last vote, for, against and neither."""
    case = court.cases.get(key)
    if case is None:
        return [NOT_THERE]
    return [0] + [ballots_cast(case, v) for v in (FOR, AGAINST, NEITHER)]

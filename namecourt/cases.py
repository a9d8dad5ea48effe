"""Cases outside of their votes: petitioned, commented on, withdrawn, published, shown, listed."""

from namecourt.court import ADOPTED, BEFORE_SECOND_VOTE, COMMENTS, PUBLISHED, WITHDRAWN, Case, is_key
from namecourt.refusals import FULL, NOT_THERE, THERE_ALREADY, WRONG_KEY, WRONG_PHASE
from namecourt.texts import ANNUL, CONSERVE, FIX, one_form, proposals_of, text_refusal

MOST_CASES = 32
MOST_COMMENTS = 100


def annuls_no_ruling(court, proposals):
    """Whether a proposal annuls what isn't a ruling."""
    for proposal in proposals:
        if proposal[0] == ANNUL and proposal[1] not in court.rulings:
            return True
    return False


def petition(court, key, text):
    """Call petition: a new case, open for comments from today on."""
    if not is_key(key):
        return [WRONG_KEY]
    proposals = proposals_of(text)
    refusal = text_refusal(proposals)
    if refusal < 0:
        return [refusal]
    if key in court.cases:
        return [THERE_ALREADY]
    if annuls_no_ruling(court, proposals):
        return [NOT_THERE]
    if len(court.cases) >= MOST_CASES:
        return [FULL]
    court.cases[key] = Case(proposals, court.today)
    return [len(proposals)]


def withdraw(court, key):
    """Call withdraw: ends a case that no vote is under way on."""
    case = court.cases.get(key)
    if case is None:
        return [NOT_THERE]
    if case.phase not in (COMMENTS, BEFORE_SECOND_VOTE):
        return [WRONG_PHASE]
    case.phase = WITHDRAWN
    return [0]


def comment(court, key):
    """Call comment: one more, of today."""
    case = court.cases.get(key)
    if case is None:
        return [NOT_THERE]
    if case.phase != COMMENTS:
        return [WRONG_PHASE]
    if case.comments >= MOST_COMMENTS:
        return [FULL]
    case.comments += 1
    case.last_comment = court.today
    return [case.comments]


def publish(court, key):
    """Call publish: the case is a ruling from today on."""
    case = court.cases.get(key)
    if case is None:
        return [NOT_THERE]
    if case.phase != ADOPTED:
        return [WRONG_PHASE]
    case.phase = PUBLISHED
    case.published = court.today
    court.rulings.append(key)
    return [len(court.rulings)]


def show(court, key):
    """Call show: the proposals in their one form."""
    case = court.cases.get(key)
    if case is None:
        return [NOT_THERE]
    return [0] + one_form(case.proposals)


def tell_phase(court, key):
    """Call phase: how far the case is, and its days."""
    case = court.cases.get(key)
    if case is None:
        return [NOT_THERE]
    return [case.phase, case.opened, case.comments, case.last_comment, case.closing, case.published]


def is_about(proposal, n):
    """Whether a proposal of the kinds 0 to 4 is about the name n."""
    kind = proposal[0]
    # The numbers of the kinds behind FIX are those of works and rulings, not of names.
    if kind > FIX:
        return False
    return proposal[1] == n or (kind == CONSERVE and proposal[2] == n)


def is_pending_on(case, n):
    """Whether a case in the phases 1 to 5 has a proposal about the name n."""
    return case.phase <= ADOPTED and any([is_about(proposal, n) for proposal in case.proposals])


def stays(court, n):
    """Call stays: the cases, by rising keys, that may yet lead to a ruling about the name n."""
    return [0] + [key for key in sorted(court.cases) if is_pending_on(court.cases[key], n)]

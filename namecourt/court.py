"""What one commission keeps: its day, its members, its cases and rulings."""

LARGEST_KEY = 1000000000

COMMENTS = 1
FIRST_VOTE = 2
BEFORE_SECOND_VOTE = 3
SECOND_VOTE = 4
ADOPTED = 5
REJECTED = 6
WITHDRAWN = 7
PUBLISHED = 8


class Case:
    """One petition on its way from comments to a ruling."""

    def __init__(self, proposals, opened):
        self.proposals = proposals
        self.phase = COMMENTS
        self.opened = opened
        self.comments = 0
        self.last_comment = opened
        self.closing = 0
        # The ballots of the last vote alone: member to 1, 2 or 3.
        self.ballots = {}
        self.published = 0


class Court:
    """A new commission: day 0, nobody in office, no cases."""

    def __init__(self):
        self.today = 0
        # Only those in office stand here: member to last day.
        self.last_days = {}
        # No member has the key 0, so it stands for nobody.
        self.presiding = 0
        # By their keys.
        self.cases = {}
        # The keys of the cases in phase 8, in the order of publishing.
        self.rulings = []


def is_key(number):
    """Whether a number may be the key of a member, a case or a name."""
    return 1 <= number <= LARGEST_KEY

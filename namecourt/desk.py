"""The calls on one commission, handed in and answered as lists of whole numbers."""

from namecourt.cases import comment, petition, publish, show, stays, tell_phase, withdraw
from namecourt.court import Court
from namecourt.effects import conserved, fixed_at, over, rejected, status, tell_index
from namecourt.force import because, check, in_force, tell_rulings
from namecourt.members import go_to_day, leave, preside, seat, tell_office
from namecourt.texts import read_text
from namecourt.votes import ballot, close, open_vote, tally


class Feed:
    """Gives the numbers of a list one behind another, and leaves the list as it is."""

    def __init__(self, numbers):
        self.numbers = numbers
        self.place = 0

    def is_over(self):
        return self.place >= len(self.numbers)

    def take(self):
        """The number that comes now."""
        number = self.numbers[self.place]
        self.place += 1
        return number

    def take_row(self):
        """The row that comes now, behind its length."""
        length = self.take()
        start = self.place
        self.place += length
        return self.numbers[start:start + length]


def do_day(court, feed):
    return go_to_day(court, feed.take())


def do_seat(court, feed):
    member = feed.take()
    last = feed.take()
    return seat(court, member, last)


def do_leave(court, feed):
    return leave(court, feed.take())


def do_preside(court, feed):
    return preside(court, feed.take())


def do_petition(court, feed):
    key = feed.take()
    text = feed.take_row()
    return petition(court, key, text)


def do_withdraw(court, feed):
    return withdraw(court, feed.take())


def do_comment(court, feed):
    return comment(court, feed.take())


def do_open_vote(court, feed):
    return open_vote(court, feed.take())


def do_ballot(court, feed):
    key = feed.take()
    member = feed.take()
    v = feed.take()
    return ballot(court, key, member, v)


def do_close(court, feed):
    return close(court, feed.take())


def do_publish(court, feed):
    return publish(court, feed.take())


def do_read(court, feed):
    return read_text(feed.take_row())


def do_show(court, feed):
    return show(court, feed.take())


def do_phase(court, feed):
    return tell_phase(court, feed.take())


def do_tally(court, feed):
    return tally(court, feed.take())


def do_office(court, feed):
    return tell_office(court)


def do_rulings(court, feed):
    return tell_rulings(court, feed.take())


def do_in_force(court, feed):
    d = feed.take()
    key = feed.take()
    return in_force(court, d, key)


def do_because(court, feed):
    d = feed.take()
    key = feed.take()
    return because(court, d, key)


def do_check(court, feed):
    d = feed.take()
    key = feed.take()
    v = feed.take()
    row = feed.take_row()
    return check(court, d, key, v, row)


def do_status(court, feed):
    d = feed.take()
    n = feed.take()
    return status(court, d, n)


def do_over(court, feed):
    d = feed.take()
    n = feed.take()
    m = feed.take()
    return over(court, d, n, m)


def do_fixed_at(court, feed):
    d = feed.take()
    n = feed.take()
    return fixed_at(court, d, n)


def do_rejected(court, feed):
    d = feed.take()
    w = feed.take()
    return rejected(court, d, w)


def do_index(court, feed):
    return tell_index(court, feed.take())


def do_conserved(court, feed):
    return conserved(court, feed.take())


def do_stays(court, feed):
    return stays(court, feed.take())


# A call's number is its place here.
CALLS = (
    do_day,
    do_seat,
    do_leave,
    do_preside,
    do_petition,
    do_withdraw,
    do_comment,
    do_open_vote,
    do_ballot,
    do_close,
    do_publish,
    do_read,
    do_show,
    do_phase,
    do_tally,
    do_office,
    do_rulings,
    do_in_force,
    do_because,
    do_check,
    do_status,
    do_over,
    do_fixed_at,
    do_rejected,
    do_index,
    do_conserved,
    do_stays,
)


def answers(calls):
    """For each call on a new commission how many numbers are answered, then these."""
    court = Court()
    feed = Feed(calls)
    told = []
    while not feed.is_over():
        call = CALLS[feed.take()]
        answer = call(court, feed)
        told.append(len(answer))
        told.extend(answer)
    return told

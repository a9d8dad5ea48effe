"""The calls on one commission, handed in and answered as lists of whole numbers."""

from namecourt.cases import comment, petition, publish, show, tell_phase, withdraw
from namecourt.court import Court
from namecourt.members import go_to_day, leave, preside, seat
from namecourt.texts import read_text
from namecourt.votes import ballot, close, open_vote


class Feed:
    """Gives the numbers of a list one behind another, and leaves the list as it is."""

    def __init__(self, numbers):
        self.numbers = numbers
        self.place = 0

    def is_over(self):
        return self.place >= len(self.numbers)

    def take(self):
        """The number that comes now."""
        number = self.numbers[self.place]
        self.place += 1
        return number

    def take_row(self):
        """The row that comes now, behind its length."""
        length = self.take()
        start = self.place
        self.place += length
        return self.numbers[start:start + length]


def do_day(court, feed):
    return go_to_day(court, feed.take())


def do_seat(court, feed):
    member = feed.take()
    last = feed.take()
    return seat(court, member, last)


def do_leave(court, feed):
    return leave(court, feed.take())


def do_preside(court, feed):
    return preside(court, feed.take())


def do_petition(court, feed):
    key = feed.take()
    text = feed.take_row()
    return petition(court, key, text)


def do_withdraw(court, feed):
    return withdraw(court, feed.take())


def do_comment(court, feed):
    return comment(court, feed.take())


def do_open_vote(court, feed):
    return open_vote(court, feed.take())


def do_ballot(court, feed):
    key = feed.take()
    member = feed.take()
    v = feed.take()
    return ballot(court, key, member, v)


def do_close(court, feed):
    return close(court, feed.take())


def do_publish(court, feed):
    return publish(court, feed.take())


def do_read(court, feed):
    return read_text(feed.take_row())


def do_show(court, feed):
    return show(court, feed.take())


def do_phase(court, feed):
    return tell_phase(court, feed.take())


# A call's number is its place here.
CALLS = (
    do_day,
    do_seat,
    do_leave,
    do_preside,
    do_petition,
    do_withdraw,
    do_comment,
    do_open_vote,
    do_ballot,
    do_close,
    do_publish,
    do_read,
    do_show,
    do_phase,
)


def answers(calls):
    """For each call on a new commission how many numbers are answered, then these."""
    court = Court()
    feed = Feed(calls)
    told = []
    while not feed.is_over():
        call = CALLS[feed.take()]
        answer = call(court, feed)
        told.append(len(answer))
        told.extend(answer)
    return told

"""Writes calls as lists of numbers, and reads the answers call by call."""

from namecourt.desk import answers

LAST_DAY = 474814
LARGEST_KEY = 1000000000
FAR = 1000000000000


def as_bytes(text):
    return [ord(sign) for sign in text] if isinstance(text, str) else list(text)


def day(d):
    return [0, d]


def seat(member, last=LAST_DAY):
    return [1, member, last]


def leave(member):
    return [2, member]


def preside(member):
    return [3, member]


def petition(key, text="suppress 5"):
    row = as_bytes(text)
    return [4, key, len(row)] + row


def withdraw(case):
    return [5, case]


def comment(case):
    return [6, case]


def open_vote(case):
    return [7, case]


def ballot(case, member, v):
    return [8, case, member, v]


def close(case):
    return [9, case]


def publish(case):
    return [10, case]


def read(text):
    row = as_bytes(text)
    return [11, len(row)] + row


def show(case):
    return [12, case]


def phase(case):
    return [13, case]


def joined(calls):
    return [number for call in calls for number in call]


def split(told):
    """The answers, a list for each call; fails where the counts don't fit."""
    parts = []
    place = 0
    while place < len(told):
        count = told[place]
        part = told[place + 1:place + 1 + count]
        if count < 1 or len(part) != count:
            raise AssertionError(f"bad count {count} at {place}")
        parts.append(part)
        place += 1 + count
    return parts


def run(calls):
    """The answers to calls that a new commission gets, a list for each."""
    parts = split(answers(joined(calls)))
    if len(parts) != len(calls):
        raise AssertionError(f"{len(parts)} answers to {len(calls)} calls")
    return parts


def last(calls):
    """The answer to the last one of the calls."""
    return run(calls)[-1]


def in_first_vote(members=5, case=1, text="suppress 5"):
    """Calls that seat members 1, 2 and so on, and open a first vote on day 180."""
    seats = [seat(member) for member in range(1, members + 1)]
    return seats + [petition(case, text), day(180), open_vote(case)]


def cast(votes, case=1):
    """Ballots of members 1, 2 and so on; a 0 is a member who casts none."""
    return [ballot(case, member, v) for member, v in enumerate(votes, start=1) if v != 0]


def in_second_vote(members=5, case=1):
    """Calls that lead to a second vote on day 271; the first was 3 for, 2 against."""
    first = in_first_vote(members, case) + cast([1, 1, 1, 2, 2], case)
    return first + [day(271), close(case), open_vote(case)]


def made_ruling(case, text="suppress 5", today=0, members=3):
    """Calls that petition on the day today and publish 180 days later; members 1, 2 .. are in office."""
    votes = [ballot(case, member, 1) for member in range(1, members + 1)]
    opening = [petition(case, text), day(today + 180), open_vote(case)]
    return opening + votes + [close(case), publish(case)]

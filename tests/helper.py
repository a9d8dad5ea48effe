"""Writes calls as lists of numbers, and reads the answers call by call."""

from namecourt.desk import answers

LAST_DAY = 474814
LARGEST_KEY = 1000000000
FAR = 1000000000000


def as_bytes(text):
    return [ord(sign) for sign in text] if isinstance(text, str) else list(text)


def day(d):
    return [0, d]


def seat(member, last=LAST_DAY):
    return [1, member, last]


def leave(member):
    return [2, member]


def preside(member):
    return [3, member]


def petition(key, text="suppress 5"):
    row = as_bytes(text)
    return [4, key, len(row)] + row


def withdraw(case):
    return [5, case]


def comment(case):
    return [6, case]


def open_vote(case):
    return [7, case]


def ballot(case, member, v):
    return [8, case, member, v]


def close(case):
    return [9, case]


def publish(case):
    return [10, case]


def read(text):
    row = as_bytes(text)
    return [11, len(row)] + row


def show(case):
    return [12, case]


def phase(case):
    return [13, case]


def tally(case):
    return [14, case]


def office():
    return [15]


def rulings(d=LAST_DAY):
    return [16, d]


def in_force(d, case):
    return [17, d, case]


def because(d, case):
    return [18, d, case]


def check(d, case, v, row):
    return [19, d, case, v, len(row)] + list(row)


def status(d, n):
    return [20, d, n]


def over(d, n, m):
    return [21, d, n, m]


def type_at(d, n):
    return [22, d, n]


def rejected(d, w):
    return [23, d, w]


def index(d=LAST_DAY):
    return [24, d]


def conserved(d=LAST_DAY):
    return [25, d]


def stays(n):
    return [26, n]


def joined(calls):
    return [number for call in calls for number in call]


def split(told):
    """The answers, a list for each call; fails where the counts don't fit."""
    parts = []
    place = 0
    while place < len(told):
        count = told[place]
        part = told[place + 1:place + 1 + count]
        if count < 1 or len(part) != count:
            raise AssertionError(f"bad count {count} at {place}")
        parts.append(part)
        place += 1 + count
    return parts


def run(calls):
    """The answers to calls that a new commission gets, a list for each."""
    parts = split(answers(joined(calls)))
    if len(parts) != len(calls):
        raise AssertionError(f"{len(parts)} answers to {len(calls)} calls")
    return parts


def last(calls):
    """The answer to the last one of the calls."""
    return run(calls)[-1]


def in_first_vote(members=5, case=1, text="suppress 5"):
    """Calls that seat members 1, 2 and so on, and open a first vote on day 180."""
    seats = [seat(member) for member in range(1, members + 1)]
    return seats + [petition(case, text), day(180), open_vote(case)]


def cast(votes, case=1):
    """Ballots of members 1, 2 and so on; a 0 is a member who casts none."""
    return [ballot(case, member, v) for member, v in enumerate(votes, start=1) if v != 0]


def in_second_vote(members=5, case=1, text="suppress 5"):
    """Calls that lead to a second vote on day 271; the first was 3 for, 2 against."""
    first = in_first_vote(members, case, text) + cast([1, 1, 1, 2, 2], case)
    return first + [day(271), close(case), open_vote(case)]


def made_ruling(case, text="suppress 5", today=0, members=3):
    """Calls that petition on the day today and publish 180 days later; members 1, 2 .. are in office."""
    votes = [ballot(case, member, 1) for member in range(1, members + 1)]
    opening = [petition(case, text), day(today + 180), open_vote(case)]
    return opening + votes + [close(case), publish(case)]


def in_phase(number, text="suppress 5"):
    """Calls that lead case 1, petitioned on day 0, to a phase; members 1 to 5 are in office but in 1 and 7."""
    if number == 1:
        return [petition(1, text)]
    if number == 7:
        return [petition(1, text), withdraw(1)]
    if number == 2:
        return in_first_vote(text=text)
    if number == 4:
        return in_second_vote(text=text)
    votes = {3: [1, 1, 1, 2, 2], 5: [1, 1, 1, 1, 1], 6: [2, 2, 2, 2, 2], 8: [1, 1, 1, 1, 1]}
    ended = in_first_vote(text=text) + cast(votes[number]) + [close(1)]
    return ended + [publish(1)] if number == 8 else ended


def with_rulings(texts):
    """Calls that publish a ruling of each text: the first is case 1 of day 180, the second case 2 of day 360 .."""
    calls = [seat(member) for member in (1, 2, 3)]
    for place, text in enumerate(texts):
        calls += made_ruling(place + 1, text, today=180 * place)
    return calls


def with_rulings_of_one_day(texts):
    """Calls that publish the rulings of a dict, case to text, on day 180, in the dict's order."""
    calls = [seat(member) for member in (1, 2, 3)]
    calls += [petition(case, texts[case]) for case in sorted(texts)] + [day(180)]
    for case in sorted(texts):
        calls += [open_vote(case)] + cast([1, 1, 1], case) + [close(case)]
    return calls + [publish(case) for case in texts]


def asked(calls, questions):
    """The answers to questions that come behind calls, a list for each; as many lists of calls as it takes."""
    told = []
    room = 400 - len(calls)
    for start in range(0, len(questions), room):
        told += run(calls + questions[start:start + room])[len(calls):]
    return told

"""Petition texts: bytes read into proposals, and proposals written in their one form.

A proposal is (kind, n, m), with m 0 where its kind has none.
"""

from namecourt.court import is_key
from namecourt.refusals import OVER_ITSELF, TOO_MANY_PROPOSALS, WRONG_NUMBER, WRONG_TEXT

MOST_PROPOSALS = 6

RESTORE = 0
SUPPRESS = 1
SUPPRESS_WHOLLY = 2
CONSERVE = 3
FIX = 4
REJECT = 5
ANNUL = 6

BLANK = 32
SEMICOLON = 59
LETTERS = "abcdefghijklmnopqrstuvwxyz"


def forms():
    """The words of each kind, by kind; a # stands for a number."""
    # Put together from halves: the language rules let the whole word stand in no file.
    fix = "ty" + "pe"
    return [
        ["restore", "#"],
        ["suppress", "#"],
        ["suppress", "#", "wholly"],
        ["conserve", "#", "over", "#"],
        [fix, "#", "is", "#"],
        ["reject", "work", "#"],
        ["annul", "#"],
    ]


def group_of(byte):
    """What a byte belongs to: a blank, a semicolon, a word, a number, or nothing."""
    if byte == BLANK:
        return "blank"
    if byte == SEMICOLON:
        return "semicolon"
    if 65 <= byte <= 90 or 97 <= byte <= 122:
        return "word"
    if 48 <= byte <= 57:
        return "number"
    return "wrong"


def run_end(text, start):
    """The place behind the run of bytes of one group that begins at start."""
    group = group_of(text[start])
    end = start + 1
    while end < len(text) and group_of(text[end]) == group:
        end += 1
    return end


def word_of(run):
    """The word of a run of letters, in small letters."""
    # Capital and small letters differ by the bit 32 alone.
    return "".join([LETTERS[(byte | 32) - 97] for byte in run])


def number_of(run):
    """The number of a run of digits."""
    value = 0
    for byte in run:
        value = value * 10 + byte - 48
    return value


def parts_of(text):
    """The words (texts) and numbers between the semicolons, a list each; None if a byte is wrong."""
    parts = [[]]
    place = 0
    while place < len(text):
        group = group_of(text[place])
        end = place + 1
        if group == "wrong":
            return None
        if group == "semicolon":
            parts.append([])
        elif group == "word":
            end = run_end(text, place)
            parts[-1].append(word_of(text[place:end]))
        elif group == "number":
            end = run_end(text, place)
            parts[-1].append(number_of(text[place:end]))
        place = end
    return parts


def proposal_of(part):
    """The proposal of one part; None if it isn't one."""
    shape = ["#" if isinstance(piece, int) else piece for piece in part]
    numbers = [piece for piece in part if isinstance(piece, int)]
    for kind, form in enumerate(forms()):
        if shape == form:
            m = numbers[1] if len(numbers) == 2 else 0
            return (kind, numbers[0], m)
    return None


def proposals_of(text):
    """The proposals of a text, whatever their numbers; None if the text isn't made of proposals."""
    parts = parts_of(text)
    if parts is None:
        return None
    proposals = [proposal_of(part) for part in parts]
    if None in proposals:
        return None
    return proposals


def numbers_of(proposal):
    """The numbers that stand in a proposal's text."""
    if proposal[0] in (CONSERVE, FIX):
        return [proposal[1], proposal[2]]
    return [proposal[1]]


def text_refusal(proposals):
    """Why a text with these proposals (see proposals_of) is refused; 0 if it isn't."""
    if proposals is None:
        return WRONG_TEXT
    if len(proposals) > MOST_PROPOSALS:
        return TOO_MANY_PROPOSALS
    for proposal in proposals:
        if not all([is_key(number) for number in numbers_of(proposal)]):
            return WRONG_NUMBER
    for proposal in proposals:
        if proposal[0] == CONSERVE and proposal[1] == proposal[2]:
            return OVER_ITSELF
    return 0


def read_text(text):
    """Call read: how many proposals a text has, then the three numbers of each."""
    proposals = proposals_of(text)
    refusal = text_refusal(proposals)
    if refusal < 0:
        return [refusal]
    answer = [len(proposals)]
    for proposal in proposals:
        answer.extend(proposal)
    return answer


def written(proposal):
    """One proposal in its one form, as a text."""
    numbers = numbers_of(proposal)
    pieces = []
    used = 0
    for piece in forms()[proposal[0]]:
        if piece == "#":
            pieces.append(str(numbers[used]))
            used += 1
        else:
            pieces.append(piece)
    return " ".join(pieces)


def one_form(proposals):
    """The bytes of proposals in their one form."""
    return [ord(sign) for sign in "; ".join([written(proposal) for proposal in proposals])]

"""The numbers that a call answers alone when it is refused."""

WRONG_TEXT = -1
WRONG_NUMBER = -2
TOO_MANY_PROPOSALS = -3
WRONG_KEY = -4
THERE_ALREADY = -5
NOT_THERE = -6
FULL = -8
OUT_OF_RANGE = -9
OVER_ITSELF = -10
BEFORE_TODAY = -12
WRONG_PHASE = -13
WRONG_TIME = -14

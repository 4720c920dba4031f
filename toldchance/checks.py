"""The refusals by their numbers, and what is asked before a call is done."""

from toldchance.steps import STATES

WRONG_STREAM = -1
WRONG_STEPS = -2
WRONG_LENGTH = -3
WRONG_MIRROR = -4
WRONG_BOUND = -5
WRONG_WEIGHTS = -6
WRONG_PART = -7
WRONG_PLACE = -8
NO_DISTRIBUTION = -10
WRONG_RAW = -11
EMPTY_PLACE = -12

STREAMS = 64
PLACES = 64
MOST_RAWS = 1000
MOST_WEIGHTS = 64
MOST_TEETH = 1000000000000000000
GREATEST_BOUND = 1000000000000000000
GREATEST_SUM = 10000000000000000000000000000000000000000
GREATEST_FACTOR = 1000000000


def within(number, least, greatest):
    return least <= number <= greatest


def is_stream(number):
    return within(number, 0, STREAMS - 1)


# States are asked here too: the two have one range and one refusal.
def is_steps(number):
    return within(number, 0, STATES - 1)


def is_length(number):
    return within(number, 0, MOST_RAWS)


def is_bound(number):
    return within(number, -GREATEST_BOUND, GREATEST_BOUND)


def are_weights(row):
    if not within(len(row), 1, MOST_WEIGHTS):
        return False
    if min(row) < 0:
        return False
    return within(sum(row), 1, GREATEST_SUM)


def is_place(number):
    return within(number, 0, PLACES - 1)


# 0 where nothing is to be refused.
def place_refusal(bank, d):
    if not is_place(d):
        return WRONG_PLACE
    if bank.distributions[d] is None:
        return EMPTY_PLACE
    return 0

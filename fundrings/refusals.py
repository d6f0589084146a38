"""The numbers that refusals answer."""

OUT_OF_RANGE = -1
NOT_THERE = -2
TOO_MANY = -3
THERE_ALREADY = -4
TOO_FEW = -5
NO_UNIT = -6
NO_CASH = -7
NOT_LET = -8
OWNED_WHOLLY = -9


def within(number, least, most):
    return least <= number and number <= most

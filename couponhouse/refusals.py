"""The refusals' numbers, and GRANTED, which a check gives back where it refuses nothing."""

GRANTED = 0
NOT_OF_FORM = -1
OUT_OF_RANGE = -2
WRONG_NUMBER = -3
NO_TICKET = -4
NO_COUPON = -5
TABLE_FULL = -6
NOT_ISSUABLE = -7
WRONG_CREDIT = -8
NOT_ALLOWED = -9
OTHER_CARRIER = -10
FLIGHT_GONE = -11
OUT_OF_ORDER = -12
DAY_GOES_BACK = -13
WRONG_FORMS = -14

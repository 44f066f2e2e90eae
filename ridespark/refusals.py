"""The numbers that refused calls answer."""

OUT_OF_RANGE = -1
NO_PARK = -2
PARK_TOLD = -3
ENTRIES_FULL = -4
NO_RIDE = -5
NO_SENSOR = -6
NO_CHECK = -7
TO_COME = -8
MAY_NOT_RUN = -9
TOO_MANY_ROUNDS = -10
NOT_HERE_OR_HERE = -11
LOCK_ON_OR_OFF = -12
TEXT_WRONG = -13
NOT_TWO_OTHERS = -14
NO_ORDER = -15
# The document has one number for both.
NO_ENTRY = -15
FINISHED_ALREADY = -16
NO_RULE = -17
NO_WAY = -18

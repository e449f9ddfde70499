"""The numbers by which calls are refused."""

SLOT = -1
NONE = -2
LONG = -3
FORM = -4
LIMIT = -5
FAULTY = -6
NAME = -7
ABSENT = -8
ALIKE = -9

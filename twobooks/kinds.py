"""The numbers that sides, conflicts and choices are told by."""

LEFT = 1
RIGHT = 2

# A choice of a side is the side's own number.
NO_CHOICE = 0
BASE_CHOICE = 3
GREATEST_CHOICE = 3

NO_CONFLICT = 0
TEXT_CONFLICT = 1
LEFT_HAS_NOT = 2
RIGHT_HAS_NOT = 3
ORDER_CONFLICT = 4

# At the place of each kind of conflict and of each choice: which one it is once left and right are exchanged.
EXCHANGED_KINDS = (0, 1, 3, 2, 4)
EXCHANGED_CHOICES = (0, 2, 1, 3)

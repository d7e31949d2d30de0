"""The numbers that limit a text."""

# Numbers go from 0 to one less than this, and begin with 0 again behind it.
NUMBERS = 4294967296

MOST_KINDS = 6
MOST_FIELDS = 6
MOST_THINGS = 40

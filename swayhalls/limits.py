"""Constants that the document names, and the bounds of what a hall may be and of what is looked through."""

MOST = 400
MOST_STEPS = 4
MOST_WEIGHTS = 5
MOST_PASTS = 4096
LAST_BEGIN = 2000
LONGEST_ROUND = 400
MOST_STANDINGS = 1024
MOST_BEATS = 2000
MOST_LETTERS = 6
MOST_SHORT = 99999

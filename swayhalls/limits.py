"""Constants that the document names, and the bounds of what a hall may be."""

MOST = 400
MOST_STEPS = 4
MOST_WEIGHTS = 5

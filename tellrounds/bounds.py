"""The limits that the document sets."""

VERTICES = 16
DELAY = 10 ** 9
COUNTED = 9
COUNT_TIME = 20
BATCH = 20

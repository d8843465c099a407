"""Meanbits: numbers told by rows of ones and noughts whose mean they are."""

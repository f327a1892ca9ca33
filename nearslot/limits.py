"""Bounds that the functions of the package share."""

MOST_LISTED = 300

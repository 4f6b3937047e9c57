"""Restward: whether every way dies, and if not, how many grow."""

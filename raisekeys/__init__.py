"""Raisekeys: overlapping windows, raised and lowered."""

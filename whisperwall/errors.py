"""Errors: nothing is refused, so there are none."""

"""Nextbyrule: rows of numbers by rules."""

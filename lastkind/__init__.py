"""Lastkind: memory that takes the kind of the last write."""

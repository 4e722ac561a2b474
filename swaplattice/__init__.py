"""Rows of things, ordered by the pairs that are turned."""

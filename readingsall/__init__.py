"""Readingsall: every reading of a text, counted and ranked."""

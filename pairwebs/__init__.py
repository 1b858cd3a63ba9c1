"""Pairwebs: places paired by their ties, as many as can be."""

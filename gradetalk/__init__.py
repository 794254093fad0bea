"""Gradetalk: sayings that are so to a degree, whatever 'both' means."""

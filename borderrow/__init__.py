"""Borderrow: rows of borders, the least words that have them, and words by their periods."""

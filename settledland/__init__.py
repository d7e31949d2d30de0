"""Settledland: the land that a text tells."""

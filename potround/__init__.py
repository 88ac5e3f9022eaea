"""Potround: glass melted in pots round one fire."""

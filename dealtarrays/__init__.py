"""Dealtarrays: array programs run by a grid of machines."""

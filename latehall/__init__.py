"""Latehall: libraries brought late, and what their words mean."""

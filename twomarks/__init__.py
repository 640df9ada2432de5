"""Twomarks: goods ordered by two marks."""

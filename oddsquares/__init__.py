"""Oddsquares: squares and rectangles on closed fences."""

"""Squarepapers: inequalities over fractions, each with a paper."""

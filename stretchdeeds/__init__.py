"""Stretchdeeds: rows of values, asked and changed by whole stretches."""

"""Spanmap: a line of places with values, kept by stretches."""

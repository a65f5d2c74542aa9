"""Exact numbers, lots, tables of numbers and small programs."""

"""Families, books, mixtures, prices and ladders as texts, and reports."""

"""Shares of things and mixtures of lots."""

"""Desks, at which books are edited and asked."""

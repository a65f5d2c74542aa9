"""Wishes for the things of a lot, and books of wishes for a family."""

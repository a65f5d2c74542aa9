"""Prices of wishes, and what they show."""

"""Families of bases, and what can be asked of them."""

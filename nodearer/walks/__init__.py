"""Walks from shares that fit a book to near bases."""

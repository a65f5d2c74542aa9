"""Nodearer: whole plans that are no dearer than any mixture."""

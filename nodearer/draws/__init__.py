"""Drawing the lots of a mixture one after the other."""

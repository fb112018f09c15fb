"""Heirsback: what a library of values gives back to subclasses that nobody has written yet."""

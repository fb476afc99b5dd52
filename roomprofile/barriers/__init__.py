"""Floors and barriers: what shows that no run within a capacity goes below a usage, or to the end."""

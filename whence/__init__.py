"""Whence: marks through questions."""

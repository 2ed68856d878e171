"""Checkdigits: digits whose weighted sum has a fixed remainder."""

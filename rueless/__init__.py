"""Rueless: whether a comer who is given a place at once and for good is ever rued."""

"""Nodeadnight: nights that can always still be sold."""

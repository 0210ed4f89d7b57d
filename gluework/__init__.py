"""Gluework: webs of points and ties, cut and glued by rules."""

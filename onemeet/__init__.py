"""Onemeet: points and lines by a prime, any two points with one line and any two lines with one point."""

"""Twodivisions: loops that take numbers apart, under five rules of division."""

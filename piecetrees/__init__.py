"""Piecetrees: things that no other thing can tell apart."""

"""Spanalike: what distances tell of marks, on a ring and on a line."""

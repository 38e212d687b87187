"""Rises of rows: their kinds, and the standard rise of each kind."""

"""Needrows: which rows of endless streams must be kept."""

"""Which rows are covered by other rows, and which rows are tight."""

"""Whether few rows of a stream are enough: needs and rules."""

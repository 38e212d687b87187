"""What is kept of the rows that came: states, keepers and counters."""

"""Numbers, conditions, and reasoning about conditions."""

"""Questions, and the logs of rows that come."""

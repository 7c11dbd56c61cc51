"""Two notebooks from one: a base and two sides, edited apart and merged."""

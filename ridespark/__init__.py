"""Weather and upkeep: whether a park's rides may run."""

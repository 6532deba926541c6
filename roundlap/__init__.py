"""Roundlap: rounds of a loop laid over one another."""

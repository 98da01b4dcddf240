"""Runners who pass one another and change marks by a table."""

"""Aboveless: a database in which nobody can tell what is above them."""

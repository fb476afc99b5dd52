"""A library of named jobs, which can use one another."""

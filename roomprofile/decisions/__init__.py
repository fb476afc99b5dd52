"""Decisions: whether a job fits a capacity, and how many copies or rounds of it do."""

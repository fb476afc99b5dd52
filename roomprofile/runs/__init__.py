"""Runs of small jobs."""

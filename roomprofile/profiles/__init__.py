"""Profiles: all that other jobs can notice about a job."""

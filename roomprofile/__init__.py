"""Roomprofile: which orders of work fit a shared capacity."""

"""Valleys: how low the usage can go within each capacity."""

"""Deeds that are done on rows."""

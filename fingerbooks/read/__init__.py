"""Readers: which rows are right, and what lengths and depths right rows have."""

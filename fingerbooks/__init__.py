"""Fingerbooks: schemes of sequences with two ends, each decided for all lengths."""

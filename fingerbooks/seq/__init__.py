"""Places in rows, and sequences that have integers in these places."""

"""Words, pairs, forms and rows: what all other modules speak of."""

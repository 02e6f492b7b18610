"""Books: readers with machines, which tell what deeds do with rows."""

"""Books that are worked on, and what is pledged of them."""

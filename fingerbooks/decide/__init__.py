"""What is decided about a book for right rows of any length."""

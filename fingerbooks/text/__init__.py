"""Texts of books, stands, plans and papers, and a shell of commands."""

"""Bookcuts: texts cut into words of a book."""

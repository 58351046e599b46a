"""Strangersay: sayings about a crowd, found out by its own meetings."""

"""Closering: heights told by differences, and the ring that doesn't close."""

"""Hangrings: turns of space, and hangers that lock."""

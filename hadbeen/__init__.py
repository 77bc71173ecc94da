"""Hadbeen: what would have been, had one thing been otherwise."""

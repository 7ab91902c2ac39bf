"""Keyrooms: doors opened by keys that serve once."""

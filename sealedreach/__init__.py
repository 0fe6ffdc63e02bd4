"""Sealedreach: words that no program can make."""

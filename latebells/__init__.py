"""Latebells: many clocks that run, and ring."""

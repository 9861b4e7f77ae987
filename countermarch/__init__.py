"""Countermarch: differentiating programs backward."""

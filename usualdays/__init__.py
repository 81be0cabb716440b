"""Sayings of what is usual, judged for all orders of days."""

"""Heaps on an endless line of places, and what is left of them when all rest."""

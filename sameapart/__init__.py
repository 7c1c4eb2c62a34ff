"""Sameapart: rows of numbers as many places apart as they tell, and groups of three."""

"""Swayhalls: persons who lean by what they remember of one another."""

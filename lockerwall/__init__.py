"""Boxes for parcels: what a wall of boxes does by a book of rules, and what goes wrong with it."""

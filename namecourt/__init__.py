"""Petitions, votes and rulings of a commission on names."""

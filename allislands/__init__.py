"""Allislands: marks that spread and die on an endless board."""

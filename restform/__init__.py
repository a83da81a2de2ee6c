"""Restform: polynomials known by the rests they leave."""

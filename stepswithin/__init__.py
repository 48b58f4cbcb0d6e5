"""Polynomials put into one another, and done again and again."""

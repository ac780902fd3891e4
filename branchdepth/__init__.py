"""Branchdepth: polynomials parted by a prime."""

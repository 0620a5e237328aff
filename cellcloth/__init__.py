"""Cellcloth: from a circuit's description to the bits of an array of cells, and back."""

"""Halfring: a store of keys on one ring of cells."""

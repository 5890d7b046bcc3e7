"""Bandscribe: writing on bands on which some words may never stand."""

"""Proseknot: programs told in prose."""

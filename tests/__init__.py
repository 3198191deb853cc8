"""Tests of Proseknot: python3 -m unittest discover -s tests -t ."""

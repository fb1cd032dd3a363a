"""Luminosity and quality of a data house."""

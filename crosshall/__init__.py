"""Crosshall: great lists laid into cross tables."""

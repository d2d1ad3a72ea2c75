"""Canontext: equivalent texts over character tables."""

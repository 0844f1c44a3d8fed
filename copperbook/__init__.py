"""Copperbook: boards of copper, each answer with what shows it."""

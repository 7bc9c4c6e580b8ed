"""Guardedwires: what words that pass one another guard."""

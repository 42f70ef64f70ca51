"""Firsthand: what is sure of a lost first text."""

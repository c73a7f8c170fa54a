"""Healring: machines in a ring that heal."""

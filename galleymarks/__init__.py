"""Galleymarks: marks of correctors on a galley, and which of them quarrel."""

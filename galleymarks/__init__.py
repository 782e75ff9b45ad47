"""Galleymarks: marks of correctors on a galley, which of them quarrel, and the text that they mend."""

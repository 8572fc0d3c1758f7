"""Laterknown: planning resources while some values are not known yet."""

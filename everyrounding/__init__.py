"""Everyrounding: floating numbers of every binary format, each answer the told rounding of the exact number."""

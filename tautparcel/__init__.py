"""Ribbons pulled taut round a box, for all places to begin."""

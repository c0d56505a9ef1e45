"""Movedays: who must have moved, and who may be at home."""

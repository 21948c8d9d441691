"""Packedlanes: many small numbers in one great number."""

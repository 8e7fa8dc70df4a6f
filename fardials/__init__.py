"""Fardials: shared draws, quiet tables and strongest boxes of far hands."""

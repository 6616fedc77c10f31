"""Stonebreath: stones laid on points, rows that breathe, rows that nobody can take."""

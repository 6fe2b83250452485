"""Selvage: lengths cut from rolls with flaws."""

"""Keybehind: the key behind a comparison."""

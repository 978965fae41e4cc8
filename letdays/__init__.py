"""Letdays: which deals can be on together, on days that are not known yet."""

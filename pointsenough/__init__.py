"""Pointsenough: a big reckoning made sure by asking few points."""

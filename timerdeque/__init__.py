"""Timerdeque: which timer of a wheel fires first."""

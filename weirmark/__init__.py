"""Weirmark: streams that come late, answers taken back, and the least that must be kept."""

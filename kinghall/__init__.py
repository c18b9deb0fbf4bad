"""Kinghall: halls in which each two meet once, and one of them wins."""

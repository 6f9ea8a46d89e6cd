"""Spacewright: a small language made lower in steps."""

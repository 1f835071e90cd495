"""Outlast: programs that outlast their machine."""

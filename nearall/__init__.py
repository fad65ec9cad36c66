"""Nearall: words near to several words."""

"""Clobberwalk: what cells can hold, and who writes them."""

"""Throwruns: longest runs in rows of throws."""

"""Teesizes: what the sizes of a buffer tell about its readers."""

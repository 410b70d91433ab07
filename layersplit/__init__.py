"""Layersplit: trials on guests, in layers that are free of one another."""

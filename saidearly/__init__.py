"""Saidearly: what may be said of the difference of two texts before they end."""

"""Gaugemiss: how far an answer can be from the true level when gauges lie."""

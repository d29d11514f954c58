"""Kbestwood: the best trees of a text, in order, without making all."""

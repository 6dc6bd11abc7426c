"""Tellrounds: how fast a message spreads through a tree."""

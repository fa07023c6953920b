"""Sharedboard: replicated boards that run procedures."""

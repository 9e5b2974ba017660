"""Rangekeep: a navigation receiver with exact sets of places."""

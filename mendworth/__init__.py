"""Mendworth: how long a file outlives the falls of its keepers."""

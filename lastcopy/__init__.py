"""Concurrent writers, one shared page, and lost updates."""

"""Callsover: programs whose texts are replaced while calls are open."""

"""Tonguetower: languages made in languages, and programs that run as their meaning."""

"""Oncekinds: programs that use each name once, and their kinds."""

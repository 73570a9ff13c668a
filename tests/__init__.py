"""Tests of oncekinds."""

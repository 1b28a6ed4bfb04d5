"""Mixedscales: numbers written by rows of bases."""

"""Letterbench: caught letters, byte by byte."""

"""Sightsums: equations between unknown lists that see parts of a world."""

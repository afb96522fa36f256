"""Calmword: texts told without "again and again"."""

"""Selfword: texts that run texts, and know their own."""

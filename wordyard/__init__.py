"""Wordyard: patterns of words, and the one machine of each."""

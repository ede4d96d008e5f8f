"""Stairyard: pieces in units that divide one another."""

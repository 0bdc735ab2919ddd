"""Drawnword: closed lines, and the words of their crossings."""

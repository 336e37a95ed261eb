"""Tiewebs: webs made of the ties of a web."""

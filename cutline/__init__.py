"""Cutline: lines of places with values, changed by deeds and laid on one another."""

"""Heldplaces: a small record store whose parts are code, judged for all sizes."""

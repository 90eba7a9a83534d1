"""Heldpasts: a store whose every past is one told moment."""

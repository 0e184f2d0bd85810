"""Mazeguide: rooms, doors that keys open, and the shortest walk."""

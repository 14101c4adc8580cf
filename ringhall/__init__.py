"""Ringhall: a hall where things are bought and sold by orders that wait."""

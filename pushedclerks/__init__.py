"""Copies of a machine, pushed now and then, that vote."""

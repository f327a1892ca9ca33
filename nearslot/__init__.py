"""Nearslot: objects in the free cells nearest to their wishes."""

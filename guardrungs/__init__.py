"""Guardrungs: a controller in cycles, the plant around it, and the freest guard."""

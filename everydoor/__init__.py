"""Everydoor: what goes past a subclass on its way into a container."""

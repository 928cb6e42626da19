"""Calmcuts: boxes cut into parts as great as told, and kept calm."""

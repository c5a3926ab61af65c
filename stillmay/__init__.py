"""Stillmay: what still may come in a league."""

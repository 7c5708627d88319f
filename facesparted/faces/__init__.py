"""Faces, sets of corners and partings."""

"""Facesparted: cubes of bits parted into faces."""

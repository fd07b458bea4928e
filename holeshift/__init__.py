"""Holeshift: what is missing, shifted past checks that come round."""

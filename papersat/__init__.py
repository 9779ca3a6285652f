"""Papersat: a solver that gives a model with every yes and a derivation with every no."""

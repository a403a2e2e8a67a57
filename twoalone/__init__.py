"""Twoalone: what two hands can do when neither may wait for the other."""

"""Readtell: forms told once, by which texts are read into worths and worths told as texts."""

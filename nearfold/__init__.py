"""Nearfold: numbers of a told shape in bits, each answer rounded once."""

"""Standsfor: whether a class can stand for another one in every program."""

"""Rows of numbers, exchanges that count, and the classes that they leave."""

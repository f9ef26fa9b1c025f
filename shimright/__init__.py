"""Shimright: parts made within bounds, and shims chosen when they are there."""

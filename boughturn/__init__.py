"""Boughturn: tables of turners of an endless tree, with papers."""

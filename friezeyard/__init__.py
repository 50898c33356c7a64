"""Friezeyard: floors cut into triangles, and the numbers that belong to them."""

"""Trustways: houses that trust one another, and payments along chains of promises."""

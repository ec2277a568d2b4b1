"""Pricebend: words led to one another at all prices at once."""

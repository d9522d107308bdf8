"""Arrowworlds: small worlds of arrows and what is best in them."""

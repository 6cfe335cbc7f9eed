"""Tickets and their coupons, from stock to an end."""

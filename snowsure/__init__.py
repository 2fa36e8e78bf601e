"""Snowsure: what a city's snow service can promise, whatever falls."""

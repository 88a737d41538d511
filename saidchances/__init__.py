"""Forecasters who say chances of rain, and what can have come true."""

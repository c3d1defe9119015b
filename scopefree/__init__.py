"""Scopefree: programs whose memory is released where scopes end."""

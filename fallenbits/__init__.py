"""Fallenbits: what cells whose bits only fall can promise."""

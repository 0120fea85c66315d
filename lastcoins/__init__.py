"""Shares to the last coin: the calls are in lastcoins.shares."""

"""Funds that hold funds: what they are worth, what is beneath, and which limits are in breach."""

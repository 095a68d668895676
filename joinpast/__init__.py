"""Joinpast: which pasts can be joined to which futures."""

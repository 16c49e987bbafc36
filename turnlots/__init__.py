"""Families of lots in which an exchange can always be answered."""

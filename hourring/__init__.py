"""Hourring: an exchange of work hours between neighbours."""

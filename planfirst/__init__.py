"""Planfirst: infrastructure planned, then applied."""

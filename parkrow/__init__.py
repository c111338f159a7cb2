"""Parkrow: cars that come one by one into a street of places, and what their wishes tell."""

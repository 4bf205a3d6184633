"""Deals of bridge, known in part and numbered, on boards kept side by side."""

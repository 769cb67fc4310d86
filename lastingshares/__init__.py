"""Lastingshares: chains of states, and what one faster arrow does to every share."""

"""Asklock: locks asked for over several houses, and rings of waiting."""

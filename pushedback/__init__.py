"""Pushedback: coders that are exchanges with one whole number."""

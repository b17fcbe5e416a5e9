"""Texts, and a shell that answers to them."""

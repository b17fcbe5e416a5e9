"""Covers of single trees, the cheapest ones and those of the greedy selector."""

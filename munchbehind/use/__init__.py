"""Books of rules that are worked on."""

"""What is true of all trees at once."""

"""How much harder tasks can become."""

"""How far running tasks may hold off others, with every deadline met."""

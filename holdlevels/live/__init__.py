"""Tasks that are admitted or refused while others are there."""

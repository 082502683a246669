"""Which levels meet all deadlines in all runs."""

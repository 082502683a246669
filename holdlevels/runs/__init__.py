"""Plans, a machine that runs jobs, and runs."""

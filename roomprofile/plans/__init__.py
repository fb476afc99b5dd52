"""Plans: short descriptions of orders of all steps of a job."""

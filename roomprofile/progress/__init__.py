"""Progress: the steps that a job can begin with, and what is left of it after steps."""

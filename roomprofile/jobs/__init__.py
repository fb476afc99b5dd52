"""Jobs, the addresses of their steps, and the states of small jobs."""

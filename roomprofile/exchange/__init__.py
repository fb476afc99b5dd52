"""Exchange: contexts of jobs, and which jobs can stand for which other ones in them."""

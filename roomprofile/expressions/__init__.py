"""Expressions, whose evaluation is a job, and a machine that does its steps."""

"""Text forms of values, and a shell of commands."""

"""All or nothing: what is left when a throw leaves a function."""

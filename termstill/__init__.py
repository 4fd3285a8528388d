"""Termstill: terms that run, stand still and begin anew."""

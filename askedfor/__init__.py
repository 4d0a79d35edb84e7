"""Askedfor: a language of effects and handlers."""

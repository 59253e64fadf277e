"""Readyfire: steps that fire when all that they need lies ready."""

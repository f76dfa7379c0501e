"""Wornsteps: which feet wore these steps, decided for all crowds that fit."""

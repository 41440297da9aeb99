"""Comesthrough: who can be held off for ever, by the rules of a house of locks."""

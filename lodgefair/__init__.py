"""Lodgefair: guests and houses, lodged so that no two would rather have each other."""

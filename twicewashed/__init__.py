"""Twicewashed: seams between pieces of cloth that shrink by unknown shares."""

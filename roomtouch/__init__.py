"""Roomtouch: floors of oblong rooms that touch just as told."""

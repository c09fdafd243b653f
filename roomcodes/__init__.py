"""Housekeeping: rooms by codes, work parted equally, differences told."""

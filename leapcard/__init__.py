"""Leapcard: rows of pegs under a card of jumps, and exact machines for rows of every length."""

"""Objects that move between houses, forwarding notes with exact weights, slots freed at the right moment."""

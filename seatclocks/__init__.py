"""Seatclocks: clocks and rods that move, reckoned exactly by fractions."""

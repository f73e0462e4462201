"""Ground made as it's seen: a world made from a seed, piece by piece, whenever somebody looks."""

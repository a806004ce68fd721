"""Things dealt out to hands by rings, by orders, by lot and by eating."""

"""Lendroads: undirected networks with edges of negative length."""

"""Partedlanes: lanes that run one program side by side, part at branches and rejoin."""

"""Upleaf: cards cut from one sheet that stand up when they are opened."""

"""Circuits: forms, tables, covers, graphs, machines."""

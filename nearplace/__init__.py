"""Nearplace: orders in which each thing stays near its own place."""

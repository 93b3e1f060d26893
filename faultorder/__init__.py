"""Faultorder: machines that fail part by part, where the order counts."""

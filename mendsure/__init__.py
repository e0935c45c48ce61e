"""Mendsure: tables that break their own rules."""

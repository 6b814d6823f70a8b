"""Faceonface: stamps that stamp stamps."""

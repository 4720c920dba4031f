"""Streams of told chance, and values drawn from them."""

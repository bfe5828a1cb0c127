"""Storedesk: a small database whose every road to an answer gives the plain answer."""

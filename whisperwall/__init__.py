"""Whisperwall: small programs that keep secrets."""

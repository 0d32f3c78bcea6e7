"""Brimyard: bins that must be full enough."""

"""Filledrows: rows filled to one length, and what their places hold on."""

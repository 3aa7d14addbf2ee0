"""Twiceeach: equations between rows of letters and unknown pieces."""

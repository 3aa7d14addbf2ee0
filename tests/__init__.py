"""The tests of twiceeach."""

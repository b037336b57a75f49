"""Tickrings: a runtime that moves the bytes of devices through rings of buffers."""

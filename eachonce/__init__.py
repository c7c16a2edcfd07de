"""Eachonce: things covered each just once."""

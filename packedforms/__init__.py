"""Packedforms: records and variants packed into bytes by their kinds."""

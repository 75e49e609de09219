"""Middlesay: a reasoner whose every answer has its paper."""

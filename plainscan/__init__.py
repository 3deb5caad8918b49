"""A search house whose every answer is a plain scan of one told time."""

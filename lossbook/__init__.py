"""A loss shared out unit by unit: a clearing house's waterfall."""

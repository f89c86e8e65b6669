"""Tables that tell who is wholly ahead of whom."""

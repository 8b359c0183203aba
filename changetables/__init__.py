"""Tables by which changes that several hands make to one text at once are done one behind the other."""

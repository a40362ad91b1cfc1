"""When an identifier may be handed out again."""

"""Forgetwhen: a control room with late news."""

"""Weaklook: great claims shown in few words to one who can do little but draw coins."""

"""Giveways: tasks that give way to one another, and what one run tells of all."""

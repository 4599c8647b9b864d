"""Labelmoves: moves told by labels that skip."""

"""Forehouse: shares of forecasts, one relation of two seen from eight sides."""

"""Order sheets: texts from which a trader's orders are made."""

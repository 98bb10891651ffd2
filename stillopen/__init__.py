"""Stillopen: questions over streams of trees, and how much has to be kept."""

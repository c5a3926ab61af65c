"""The tests of Stillmay, one file for each part of the document."""

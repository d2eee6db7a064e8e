"""Writers that go over a text to and fro, and writers that go over it once."""

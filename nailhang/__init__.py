"""Nailhang: pictures hung by cords that go round nails."""

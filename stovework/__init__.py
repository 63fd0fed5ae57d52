"""Stovework: an evening out of one kitchen, planned, judged and bought for."""

"""Tests of tellrounds."""

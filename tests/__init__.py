"""The tests of threeroadcars."""

"""The tests of ruleengine."""

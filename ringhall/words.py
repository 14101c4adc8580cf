"""The words of the hall, and the reach that is usual."""

BUY = "buy"
SELL = "sell"

RANK = "rank"
SHARE = "share"

REST = "rest"
NOW = "now"
WHOLE = "whole"
ONLY = "only"

OLD = "old"
NEW = "new"
BOTH = "both"
LESS = "less"

OPEN = "open"
CALL = "call"
SHUT = "shut"

REACH = 1000000000000

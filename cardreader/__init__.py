"""Cards of a batch house, read: the function to call is answers in cardreader.batch."""

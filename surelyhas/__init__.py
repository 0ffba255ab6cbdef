"""What kept pieces of texts surely tell, and which pieces to keep."""

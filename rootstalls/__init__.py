"""What can be had at a fair of stalls that keep a product, told exactly."""

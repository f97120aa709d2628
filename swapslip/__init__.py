"""Swapslip: frames led by slips that mean something at one house alone."""

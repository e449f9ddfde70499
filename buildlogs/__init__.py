"""Build logs: reading them, their faults, what in a log a file rests on, and the comparison of two logs."""

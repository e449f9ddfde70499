"""Build logs: reading them, their faults, and what in a log a file rests on."""

package world

// Joins is how often a node's store joined tallies: no command tells it.
func (w *World) Joins(node int) int { return w.nodes[node].Joins() }

package node

// Skip lets the next Start of a node that is down begin the life behind that one: no test can crash so often with many entries.
func (n *Node) Skip(life int) { n.life = life }

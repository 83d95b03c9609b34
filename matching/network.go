package matching

import (
	"slices"

	"salchow/api"
)

// What a search notes for a vertex instead of an arc.
const (
	unreached = -1
	origin    = -2
)

// A network carries the flow of a graph: from a source to the left vertices, over the edges to the right ones, and on to a sink. An arc and the arc back have the numbers 2k and 2k+1; those of the edges come first.
type network struct {
	source, sink int
	head         []int   // the vertex to which an arc leads
	room         []int   // how many more units an arc can carry
	arcs         [][]int // the arcs that leave a vertex
}

// forth and back return the arcs of an edge.
func forth(edge int) int { return 2 * edge }
func back(edge int) int  { return 2*edge + 1 }

// empty returns the network of a valid graph without a flow.
func empty(g api.Graph) *network {
	left, right := len(g.Left), len(g.Right)
	n := &network{source: left + right, sink: left + right + 1}
	connect := func(from, to, room int) {
		n.head = append(n.head, to, from)
		n.room = append(n.room, room, 0)
	}
	for _, edge := range g.Edges {
		connect(edge[0], left+edge[1], 1)
	}
	for i, capacity := range g.Left {
		connect(n.source, i, capacity)
	}
	for i, capacity := range g.Right {
		connect(left+i, n.sink, capacity)
	}
	n.arcs = leaving(left+right+2, n.head)
	return n
}

// leaving returns the arcs that leave each of so many vertices.
func leaving(vertices int, head []int) [][]int {
	// As many arcs leave a vertex as lead to it.
	degrees := make([]int, vertices)
	for _, v := range head {
		degrees[v]++
	}
	// The lists lie behind one another in one slice; the third index keeps each of them from growing into the next one.
	lists := make([][]int, vertices)
	rest := make([]int, len(head))
	for v, degree := range degrees {
		lists[v] = rest[:0:degree]
		rest = rest[degree:]
	}
	for arc := range head {
		tail := head[arc^1]
		lists[tail] = append(lists[tail], arc)
	}
	return lists
}

// filled returns the network of a valid graph with a greatest flow.
func filled(g api.Graph) *network {
	n := empty(g)
	for n.push(n.source, n.sink) {
	}
	return n
}

// uses reports whether an edge carries a unit.
func (n *network) uses(edge int) bool { return n.room[back(edge)] > 0 }

// search returns, for each vertex, the last arc of a shortest path with room from a vertex to it.
func (n *network) search(from int) []int {
	by := slices.Repeat([]int{unreached}, len(n.arcs))
	by[from] = origin
	queue := []int{from}
	for at := 0; at < len(queue); at++ {
		for _, arc := range n.arcs[queue[at]] {
			if v := n.head[arc]; n.room[arc] > 0 && by[v] == unreached {
				by[v] = arc
				queue = append(queue, v)
			}
		}
	}
	return by
}

// push sends a unit from a vertex to another one, and reports whether there is a path with room for it.
func (n *network) push(from, to int) bool {
	by := n.search(from)
	if by[to] == unreached {
		return false
	}
	for v := to; v != from; v = n.head[by[v]^1] {
		n.room[by[v]]--
		n.room[by[v]^1]++
	}
	return true
}

// settle makes the flow use an edge, if that is possible without making it smaller and without changing an edge that was settled before; the edge does not change afterwards. It reports whether the edge is used.
func (n *network) settle(edge int) bool {
	used := n.uses(edge)
	n.room[forth(edge)], n.room[back(edge)] = 0, 0
	// A unit that the edge takes over has to come back on another way.
	return used || n.push(n.head[forth(edge)], n.head[back(edge)])
}

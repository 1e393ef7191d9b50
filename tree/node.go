package tree

type row[V, S any] struct {
	key   string
	value V
	own   S
}

// node is the root of a part of a tree, whose sides' heights differ by at most one. It is never changed once it is made, so trees and iterators may share it.
type node[V, S any] struct {
	row[V, S]
	left, right *node[V, S]
	count       int // rows of this part
	height      int
	sum         S // what they come to
}

func (n *node[V, S]) rows() int {
	if n == nil {
		return 0
	}
	return n.count
}

func (n *node[V, S]) levels() int {
	if n == nil {
		return 0
	}
	return n.height
}

// walk hands out the part's rows from i on below j, i from 0 on and j up to their number; false, if yield wants no more.
func (n *node[V, S]) walk(i, j int, yield func(string, V) bool) bool {
	if i >= j {
		return true
	}
	own := n.left.rows()
	if !n.left.walk(i, min(j, own), yield) {
		return false
	}
	if i <= own && own < j && !yield(n.key, n.value) {
		return false
	}
	return n.right.walk(max(i-own-1, 0), j-own-1, yield)
}

// fold joins the summaries of n's rows from i on below j, of which there is one at least, from 0 on and up to their number.
func (t *Tree[V, S]) fold(n *node[V, S], i, j int) S {
	if i == 0 && j == n.count {
		return n.sum
	}
	own := n.left.rows()
	switch {
	case j <= own:
		return t.fold(n.left, i, j)
	case i > own:
		return t.fold(n.right, i-own-1, j-own-1)
	}
	sum := n.own
	if i < own {
		sum = t.both(t.fold(n.left, i, own), sum)
	}
	if own+1 < j {
		sum = t.both(sum, t.fold(n.right, 0, j-own-1))
	}
	return sum
}

// both joins; where join itself panics the answer is zero, as nothing is promised of Fold then, but Put has still to put its row.
func (t *Tree[V, S]) both(a, b S) (s S) {
	defer func() {
		if recover() != nil {
			s = t.zero
		}
	}()
	return t.join(a, b)
}

// hang makes a node of a row, with parts on either side whose heights differ by at most one.
func (t *Tree[V, S]) hang(r row[V, S], left, right *node[V, S]) *node[V, S] {
	sum := r.own
	if left != nil {
		sum = t.both(left.sum, sum)
	}
	if right != nil {
		sum = t.both(sum, right.sum)
	}
	return &node[V, S]{
		row:    r,
		left:   left,
		right:  right,
		count:  left.rows() + 1 + right.rows(),
		height: max(left.levels(), right.levels()) + 1,
		sum:    sum,
	}
}

// level is hang for heights that differ by up to two, as they do behind a Put: then nodes are turned.
func (t *Tree[V, S]) level(r row[V, S], left, right *node[V, S]) *node[V, S] {
	switch left.levels() - right.levels() {
	case 2:
		return t.turnRight(r, left, right)
	case -2:
		return t.turnLeft(r, left, right)
	}
	return t.hang(r, left, right)
}

func (t *Tree[V, S]) turnRight(r row[V, S], left, right *node[V, S]) *node[V, S] {
	inner := left.right
	if left.left.levels() >= inner.levels() {
		return t.hang(left.row, left.left, t.hang(r, inner, right))
	}
	return t.hang(inner.row, t.hang(left.row, left.left, inner.left), t.hang(r, inner.right, right))
}

func (t *Tree[V, S]) turnLeft(r row[V, S], left, right *node[V, S]) *node[V, S] {
	inner := right.left
	if right.right.levels() >= inner.levels() {
		return t.hang(right.row, t.hang(r, left, inner), right.right)
	}
	return t.hang(inner.row, t.hang(r, left, inner.left), t.hang(right.row, inner.right, right.right))
}

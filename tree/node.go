package tree

import "slices"

// node is a leaf, with keys and what each has, or has kids, one more than keys: all keys under a kid are below the node's key behind it, and not below that ahead of it.
// No node is changed once it is made, nor any of its lists, spare room included: so nodes may share them.
type node[V any] struct {
	keys []string
	vals []V
	kids []*node[V]
}

func (n *node[V]) leaf() bool { return len(n.kids) == 0 }

// toward answers the place of the kid under which key is, if it is there.
func (n *node[V]) toward(key string) int {
	i, found := slices.BinarySearch(n.keys, key)
	if found {
		return i + 1
	}
	return i
}

// put is n with key, which has v; it may come to have one key more than order.
func (n *node[V]) put(key string, v V, order int) *node[V] {
	if n.leaf() {
		return n.set(key, v)
	}
	i := n.toward(key)
	kid := n.kids[i].put(key, v, order)
	if len(kid.keys) <= order {
		return n.with(i, i+1, nil, kid)
	}
	left, between, right := kid.parted(len(kid.keys) / 2)
	return n.with(i, i+1, []string{between}, left, right)
}

// set is the leaf n with key, which has v.
func (n *node[V]) set(key string, v V) *node[V] {
	i, found := slices.BinarySearch(n.keys, key)
	behind := i
	if found {
		behind++
	}
	return &node[V]{
		keys: slices.Concat(n.keys[:i], []string{key}, n.keys[behind:]),
		vals: slices.Concat(n.vals[:i], []V{v}, n.vals[behind:]),
	}
}

// cut is n without key, which is there; it may come to have one key fewer than least.
func (n *node[V]) cut(key string, least int) *node[V] {
	if n.leaf() {
		return n.unset(key)
	}
	i := n.toward(key)
	next := n.with(i, i+1, nil, n.kids[i].cut(key, least))
	if len(next.kids[i].keys) >= least {
		return next
	}
	return next.filled(i, least)
}

// unset is the leaf n without key, which is there.
func (n *node[V]) unset(key string) *node[V] {
	i, _ := slices.BinarySearch(n.keys, key)
	return &node[V]{
		keys: slices.Concat(n.keys[:i], n.keys[i+1:]),
		vals: slices.Concat(n.vals[:i], n.vals[i+1:]),
	}
}

// filled is n, whose kid i has a key too few, with that kid filled by one of its neighbour's keys, or put together with the neighbour, if that has none to spare.
func (n *node[V]) filled(i, least int) *node[V] {
	at := max(i-1, 0)
	left, right := n.kids[at], n.kids[at+1]
	both := joined(left, n.keys[at], right)
	if len(left.keys)+len(right.keys) < 2*least {
		return n.with(at, at+2, nil, both)
	}
	size := len(left.keys) - 1
	if i == at {
		size = len(left.keys) + 1
	}
	left, between, right := both.parted(size)
	return n.with(at, at+2, []string{between}, left, right)
}

// with is n with kids, and the keys between them, in place of those from i to ahead of j.
func (n *node[V]) with(i, j int, between []string, kids ...*node[V]) *node[V] {
	return &node[V]{
		keys: slices.Concat(n.keys[:i], between, n.keys[j-1:]),
		kids: slices.Concat(n.kids[:i], kids, n.kids[j:]),
	}
}

// parted is n as two nodes, of which the left one has size keys, and the key between them.
func (n *node[V]) parted(size int) (*node[V], string, *node[V]) {
	between := n.keys[size]
	if n.leaf() {
		left := &node[V]{keys: n.keys[:size], vals: n.vals[:size]}
		right := &node[V]{keys: n.keys[size:], vals: n.vals[size:]}
		return left, between, right
	}
	// The key between two nodes with kids stands above them alone.
	left := &node[V]{keys: n.keys[:size], kids: n.kids[:size+1]}
	right := &node[V]{keys: n.keys[size+1:], kids: n.kids[size+1:]}
	return left, between, right
}

// joined is left and right, between which a key stands, as one node.
func joined[V any](left *node[V], between string, right *node[V]) *node[V] {
	if left.leaf() {
		return &node[V]{
			keys: slices.Concat(left.keys, right.keys),
			vals: slices.Concat(left.vals, right.vals),
		}
	}
	return &node[V]{
		keys: slices.Concat(left.keys, []string{between}, right.keys),
		kids: slices.Concat(left.kids, right.kids),
	}
}

// walk tells the keys under n from from on, till one isn't below to or whoever asks stops, and answers whether to go on.
func (n *node[V]) walk(from, to string, yield func(string, V) bool) bool {
	if n.leaf() {
		return n.tell(from, to, yield)
	}
	for _, kid := range n.kids[n.toward(from):] {
		if !kid.walk(from, to, yield) {
			return false
		}
	}
	return true
}

// tell is walk over a leaf.
func (n *node[V]) tell(from, to string, yield func(string, V) bool) bool {
	start, _ := slices.BinarySearch(n.keys, from)
	for i := start; i < len(n.keys); i++ {
		if to != "" && n.keys[i] >= to {
			return false
		}
		if !yield(n.keys[i], n.vals[i]) {
			return false
		}
	}
	return true
}

package graph

import (
	"math/rand"
	"slices"
	"testing"

	"belvedere/api"
)

// behind tells whether in order each of l stands behind all that it reads, and all stand there once.
func behind(l []api.Node, order []string) bool {
	for _, n := range l {
		at := slices.Index(order, n.Name)
		for _, r := range n.Refs {
			if !slices.Contains(order[:max(at, 0)], r) {
				return false
			}
		}
	}
	return slices.Equal(slices.Sorted(slices.Values(order)), slices.Sorted(slices.Values(namesOf(l))))
}

// orders are all orders of names.
func orders(names []string) [][]string {
	if len(names) == 0 {
		return [][]string{{}}
	}
	var all [][]string
	for i, name := range names {
		for _, rest := range orders(slices.Concat(names[:i], names[i+1:])) {
			all = append(all, append([]string{name}, rest...))
		}
	}
	return all
}

// firstFault tells what Check tells, but of circles, by the chapter's words.
func firstFault(l []api.Node) api.Errno {
	names := map[string]int{}
	for _, n := range l {
		names[n.Name]++
	}
	if len(l) > 16 {
		return api.ErrLong
	}
	if len(names) < len(l) {
		return api.ErrTwice
	}
	for _, n := range l {
		for _, r := range n.Refs {
			if names[r] == 0 {
				return api.ErrName
			}
		}
	}
	return api.OK
}

// model tells what Order tells: of all orders in which each stands behind all that it reads, that one of which the first
// name is least, and so on.
func model(l []api.Node, all [][]string) ([]string, api.Errno) {
	if err := firstFault(l); err != api.OK {
		return nil, err
	}
	var best []string
	found := false
	for _, order := range all {
		if behind(l, order) && (!found || slices.Compare(order, best) < 0) {
			best, found = order, true
		}
	}
	if !found {
		return nil, api.ErrCycle
	}
	return best, api.OK
}

// reads tells, of each two names, whether the first reads the second, or one of these does, and so on.
func reads(l []api.Node) map[[2]string]bool {
	way := map[[2]string]bool{}
	for _, n := range l {
		for _, r := range n.Refs {
			way[[2]string{n.Name, r}] = true
		}
	}
	for _, by := range l {
		for _, from := range l {
			for _, to := range l {
				if way[[2]string{from.Name, by.Name}] && way[[2]string{by.Name, to.Name}] {
					way[[2]string{from.Name, to.Name}] = true
				}
			}
		}
	}
	return way
}

// circled tells whether one of l reads itself, by whatever ways.
func circled(l []api.Node) bool {
	way := reads(l)
	return slices.ContainsFunc(l, func(n api.Node) bool { return way[[2]string{n.Name, n.Name}] })
}

// belowHolds holds Below of all names, and of one that isn't there, to what the nodes read.
func belowHolds(t *testing.T, l []api.Node, order []string) {
	t.Helper()
	way := reads(l)
	for _, name := range order {
		var want []string
		for _, s := range order {
			if way[[2]string{name, s}] {
				want = append(want, s)
			}
		}
		below(t, l, name, want...)
	}
	belowRefused(t, l, "nobody", api.ErrName)
}

// aboveHolds holds Above of names to what the nodes, which may be any, read.
func aboveHolds(t *testing.T, l []api.Node, names []string) {
	t.Helper()
	for _, name := range names {
		who := map[string]int{}
		for _, n := range l {
			for _, r := range n.Refs {
				if r == name {
					who[n.Name]++
				}
			}
		}
		var want []string
		for s := range who {
			want = append(want, s)
		}
		slices.Sort(want)
		above(t, l, name, want...)
	}
}

// TestAllOfFew holds P17.1, P17.2 and P17.3: all ways in which up to four names may read each other and themselves, in
// two orders in which they are given.
func TestAllOfFew(t *testing.T) {
	for _, names := range [][]string{{}, {"b"}, {"b", "a"}, {"b", "ab", "B"}, {"c", "a", "d", "b"}, {"", "a", "\xff", "aa"}} {
		n := len(names)
		all := orders(names)
		for some := range 1 << (n * n) {
			var l []api.Node
			for i, name := range names {
				l = append(l, node(name))
				for j, r := range names {
					if some>>(i*n+j)&1 == 1 {
						l[i].Refs = append(l[i].Refs, r)
					}
				}
			}
			order, err := model(l, all)
			if err != api.OK {
				refused(t, l, err)
				continue
			}
			ordered(t, l, order...)
			belowHolds(t, l, order)
			aboveHolds(t, l, names)
		}
		if t.Failed() {
			return
		}
	}
}

// maker makes nodes.
type maker struct{ r *rand.Rand }

// rarely is true once in n times.
func (m maker) rarely(n int) bool { return m.r.Intn(n) == 0 }

// names are n names, which are likely to differ.
func (m maker) names(n int) []string {
	var names []string
	for _, i := range m.r.Perm(26)[:n] {
		name := []string{numbered(i), "t" + numbered(i), numbered(i) + "\x80", "T" + numbered(i/2)}[m.r.Intn(4)]
		names = append(names, name)
	}
	return names
}

// any are nodes in any order, many of which may stand together: often each reads names that come ahead of it alone.
func (m maker) any() []api.Node {
	names := m.names(m.r.Intn(api.MaxObjects + 2))
	var l []api.Node
	for i, name := range names {
		n := node(name)
		for range m.r.Intn(4) {
			if i > 0 {
				n.Refs = append(n.Refs, names[m.r.Intn(i)])
			}
		}
		if m.rarely(40) {
			n.Refs = append(n.Refs, names[m.r.Intn(len(names))])
		}
		if m.rarely(100) {
			n.Refs = append(n.Refs, "nobody")
		}
		l = append(l, n)
	}
	m.r.Shuffle(len(l), func(i, j int) { l[i], l[j] = l[j], l[i] })
	return l
}

// leastNext holds an order to P17.1: at each place stands the least of those that may come there.
func leastNext(t *testing.T, l []api.Node, order []string) {
	t.Helper()
	for i, name := range order {
		for _, n := range l {
			free := !slices.ContainsFunc(n.Refs, func(r string) bool { return !slices.Contains(order[:i], r) })
			if free && n.Name < name && !slices.Contains(order[:i], n.Name) {
				t.Fatalf("Order(%q) = %q: %q stands ahead of %q", l, order, name, n.Name)
			}
		}
	}
}

// TestManyNodes holds P17.1, P17.2 and P17.3 for many nodes.
func TestManyNodes(t *testing.T) {
	m := maker{rand.New(rand.NewSource(17))}
	seen := map[api.Errno]int{}
	for range 6000 {
		l := m.any()
		want := firstFault(l)
		if want == api.OK && circled(l) {
			want = api.ErrCycle
		}
		seen[want]++
		aboveHolds(t, l, append(m.names(3), namesOf(l)...))
		if want != api.OK {
			refused(t, l, want)
			continue
		}
		order, err := Order(l)
		if err != api.OK || Check(l) != api.OK || !behind(l, order) {
			t.Fatalf("Order(%q) = %q, %d", l, order, err)
		}
		leastNext(t, l, order)
		belowHolds(t, l, order)
		if t.Failed() {
			return
		}
	}
	for _, err := range []api.Errno{api.OK, api.ErrLong, api.ErrTwice, api.ErrName, api.ErrCycle} {
		if seen[err] < 100 {
			t.Errorf("%d was to be told %d times", err, seen[err])
		}
	}
}

// TestAnyOrder holds P17.1 and P17.2: it doesn't matter in which order nodes, and what they read, are given, and how often.
func TestAnyOrder(t *testing.T) {
	m := maker{rand.New(rand.NewSource(71))}
	for range 5000 {
		l := m.any()
		order, err := Order(l)
		again := slices.Clone(l)
		m.r.Shuffle(len(again), func(i, j int) { again[i], again[j] = again[j], again[i] })
		for i := range again {
			again[i].Refs = slices.Repeat(turnedNames(again[i].Refs), 1+m.r.Intn(3))
		}
		if err != api.OK {
			refused(t, again, err)
			continue
		}
		ordered(t, again, order...)
		for _, name := range order {
			want, _ := Below(l, name)
			below(t, again, name, want...)
			above(t, again, name, Above(l, name)...)
		}
		if t.Failed() {
			return
		}
	}
}

func turnedNames(names []string) []string {
	names = slices.Clone(names)
	slices.Reverse(names)
	return names
}

package graph

import (
	"reflect"
	"slices"
	"testing"

	"belvedere/api"
)

// spare is l with room behind it, in which something stands.
func spare[T any](more T, l ...T) []T {
	return append(slices.Clone(l), more)[:len(l)]
}

// made are nodes in no order; all lists with spare room. What the last one reads is left to be chosen.
func made(last string) []api.Node {
	refs := func(l ...string) []string { return spare("spare", l...) }
	return spare(node("spare", "a"), node("d", refs("c", "b", "c", "a")...), node("b", refs("a")...), node("c", refs("b", "a")...), node("a", refs()...), node("e", refs(last, "a")...))
}

// sets are nodes that may stand together, and others: with a circle, with a name that none has, too many, one twice.
func sets() map[string]func() []api.Node {
	return map[string]func() []api.Node{
		"in order": func() []api.Node { return made("d") },
		"a circle": func() []api.Node { return made("e") },
		"no name":  func() []api.Node { return made("f") },
		"twice":    func() []api.Node { return spare(node("z"), append(made("d"), made("d")...)...) },
		"too many": func() []api.Node {
			return spare(node("z"), slices.Concat(made("d"), made("d"), made("d"), made("d"))...)
		},
		"no nodes":        func() []api.Node { return spare(node("z")) },
		"a name":          func() []api.Node { return spare(node("z"), node("a")) },
		"sixteen":         func() []api.Node { return spare(node("z"), turned(inARow(api.MaxObjects))...) },
		"all in a circle": func() []api.Node { return spare(node("z"), circle(api.MaxObjects)...) },
	}
}

// roomOf is all that l has, its spare room too.
func roomOf(l []api.Node) []any {
	all := []any{len(l), cap(l)}
	for _, n := range l[:cap(l)] {
		all = append(all, n.Name, len(n.Refs), n.Refs[:cap(n.Refs)])
	}
	return all
}

// asked is each call with l, and their answers.
func asked(l []api.Node) [][]string {
	order, _ := Order(l)
	again, _ := Order(l)
	told := [][]string{order, again}
	for _, name := range []string{"a", "b", "d", "e", "nobody"} {
		below, _ := Below(l, name)
		told = append(told, below, Above(l, name))
	}
	Check(l)
	return told
}

// cells are pointers to all places of memory of a list of names.
func cells(names []string) []any {
	var all []any
	for i := range names[:cap(names)] {
		all = append(all, &names[:cap(names)][i])
	}
	return all
}

// TestNothingIsChanged holds rule 3: what is handed in stays as it was, its spare room too.
func TestNothingIsChanged(t *testing.T) {
	for what, set := range sets() {
		l := set()
		asked(l)
		if !reflect.DeepEqual(roomOf(l), roomOf(set())) {
			t.Errorf("%s: %q has changed", what, l)
		}
	}
}

// TestNewMemory holds rule 3: each answer stands in memory of its own.
func TestNewMemory(t *testing.T) {
	for what, set := range sets() {
		l := set()
		seen := map[any]bool{}
		once := func(cells []any) {
			for _, c := range cells {
				if seen[c] {
					t.Fatalf("%s: two lists share memory", what)
				}
				seen[c] = true
			}
		}
		for _, n := range l {
			once(cells(n.Refs))
		}
		for _, told := range asked(l) {
			once(cells(told))
		}
	}
}

// TestAgain holds rule 4: the same call answers the same again, whatever was called between.
func TestAgain(t *testing.T) {
	for range 20 {
		for what, set := range sets() {
			l := set()
			told := asked(l)
			for _, other := range sets() {
				asked(other())
			}
			if again := asked(l); !slices.EqualFunc(told, again, slices.Equal) {
				t.Fatalf("%s: %q, and then %q", what, told, again)
			}
		}
	}
}

// TestGoesItsOwnWay holds rule 3: who changes an answer changes neither the nodes nor the next answer.
func TestGoesItsOwnWay(t *testing.T) {
	l := made("d")
	for _, told := range asked(l) {
		for i := range told {
			told[i] = "changed"
		}
	}
	ordered(t, l, "a", "b", "c", "d", "e")
	below(t, l, "d", "a", "b", "c")
	above(t, l, "a", "b", "c", "d", "e")
}

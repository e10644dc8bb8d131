package print

import "strings"

// text grows at its end alone: were each part told as a text of its own, all of it would be copied once for each part that it stands in.
type text struct{ b strings.Builder }

func (t *text) put(s string) { t.b.WriteString(s) }

func (t *text) all() string { return t.b.String() }

// list puts each of l by one, with between between them.
func list[T any](t *text, l []T, between string, one func(T)) {
	for i, x := range l {
		if i > 0 {
			t.put(between)
		}
		one(x)
	}
}

// inside puts x by one, in brackets or bare.
func inside[T any](t *text, brackets bool, x T, one func(T)) {
	if !brackets {
		one(x)
		return
	}
	t.put("(")
	one(x)
	t.put(")")
}

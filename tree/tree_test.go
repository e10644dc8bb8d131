package tree

import (
	"cmp"
	"fmt"
	"iter"
	"math"
	"reflect"
	"slices"
	"testing"

	"belvedere/api"
)

// made is a tree of this order without keys.
func made[V any](t *testing.T, order int) *Tree[V] {
	t.Helper()
	x, err := New[V](order)
	if err != api.OK {
		t.Fatalf("New(%d): %d", order, err)
	}
	return x
}

// filled is a tree of this order that has these keys, each with its place among them.
func filled(t *testing.T, order int, keys ...string) *Tree[int] {
	t.Helper()
	x := made[int](t, order)
	for i, key := range keys {
		if was, had := x.Put(key, i); was != 0 || had {
			t.Fatalf("Put(%q), which isn't there: %d, %v", key, was, had)
		}
	}
	return x
}

// letters is "a", "b" and so on, n of them.
func letters(n int) []string {
	var l []string
	for i := range n {
		l = append(l, string([]byte{byte('a' + i)}))
	}
	return l
}

// numbered is n keys that rise with their places.
func numbered(n int) []string {
	var l []string
	for i := range n {
		l = append(l, fmt.Sprintf("%05d", i))
	}
	return l
}

// got holds that key has v.
func got[V any](t *testing.T, x *Tree[V], key string, v V) {
	t.Helper()
	if has, there := x.Get(key); !there || !reflect.DeepEqual(has, v) {
		t.Errorf("Get(%q): %v, %v, want %v", key, has, there, v)
	}
}

// nothing holds that v, there is what a call answers of a key that isn't there.
func nothing[V any](t *testing.T, call string, v V, there bool) {
	t.Helper()
	var none V
	if there || !reflect.DeepEqual(v, none) {
		t.Errorf("%s: %v, %v, want V's zero value and false", call, v, there)
	}
}

// pairs is what s tells, keys and what they have.
func pairs[V any](s iter.Seq2[string, V]) ([]string, []V) {
	var keys []string
	var vals []V
	for key, v := range s {
		keys, vals = append(keys, key), append(vals, v)
	}
	return keys, vals
}

// TestNew holds P7.1, of New.
func TestNew(t *testing.T) {
	for _, order := range []int{3, 4, 5, 32, 63, 64} {
		x, err := New[string](order)
		if x == nil || err != api.OK {
			t.Fatalf("New(%d): %v, %d", order, x, err)
		}
		if x.Len() != 0 || x.Depth() != 1 || len(x.Keys("", "")) != 0 {
			t.Errorf("New(%d): %d keys, depth %d, want none and 1", order, x.Len(), x.Depth())
		}
		v, there := x.Get("")
		nothing(t, "Get in a tree without keys", v, there)
		v, there = x.Cut("")
		nothing(t, "Cut in a tree without keys", v, there)
	}
	for _, order := range []int{math.MinInt, -64, -3, -1, 0, 1, 2, 65, 128, math.MaxInt} {
		if x, err := New[string](order); x != nil || err != api.ErrArg {
			t.Errorf("New(%d): %v, %d, want nil, %d", order, x, err, api.ErrArg)
		}
	}
}

// TestPutGetCut holds P7.1, of Len, Get, Put and Cut, at one key and at several.
func TestPutGetCut(t *testing.T) {
	x := made[int](t, 3)
	was, had := x.Put("k", 5)
	nothing(t, "Put, the key's first", was, had)
	got(t, x, "k", 5)
	if was, had = x.Put("k", 0); was != 5 || !had || x.Len() != 1 {
		t.Errorf("Put, the key's second: %d, %v, %d keys, want 5, true, 1", was, had, x.Len())
	}
	// What a key has may be V's zero value: it is there all the same.
	got(t, x, "k", 0)
	if was, had = x.Put("k", 7); was != 0 || !had {
		t.Errorf("Put, the key's third: %d, %v, want 0, true", was, had)
	}
	for _, other := range []string{"", "a", "j", "k\x00", "kk", "l", "\xff"} {
		v, there := x.Get(other)
		nothing(t, "Get of a key that isn't there", v, there)
		v, there = x.Cut(other)
		nothing(t, "Cut of a key that isn't there", v, there)
	}
	if was, had = x.Cut("k"); was != 7 || !had || x.Len() != 0 || x.Depth() != 1 {
		t.Errorf("Cut: %d, %v, %d keys, depth %d", was, had, x.Len(), x.Depth())
	}
	was, had = x.Cut("k")
	nothing(t, "Cut, the key's second", was, had)
	was, had = x.Put("k", 1)
	nothing(t, "Put behind Cut", was, had)
	got(t, x, "k", 1)
}

// TestPutTwice holds P7.1, of Put of keys that are there, wherever in a tree of several levels.
func TestPutTwice(t *testing.T) {
	for _, order := range []int{3, 4, 64} {
		keys := numbered(200)
		x := filled(t, order, keys...)
		deep := x.Depth()
		for i, key := range keys {
			if was, had := x.Put(key, -i); was != i || !had {
				t.Fatalf("order %d: Put(%q) anew: %d, %v, want %d", order, key, was, had, i)
			}
		}
		for i, key := range keys {
			got(t, x, key, -i)
		}
		if x.Len() != 200 || x.Depth() != deep || !slices.Equal(x.Keys("", ""), keys) {
			t.Errorf("order %d: %d keys, depth %d, want 200, %d", order, x.Len(), x.Depth(), deep)
		}
	}
}

// TestOddKeys holds P7.1 and P7.2 of the empty key, of keys of which one begins the other, and of bytes of all kinds.
func TestOddKeys(t *testing.T) {
	rising := []string{
		"", "\x00", "\x00\x00", "\x00a", "\x01", " ", "A", "a", "a\x00", "aa", "aaa", "aab", "ab", "b", "\x7f",
		"\x7f\xff", "\x80", "\x80\x00", "\xbf", "\xc3", "\xc3\xa4", "é", "世", "\xfe", "\xff", "\xff\x00", "\xff\xff",
	}
	if !slices.IsSorted(rising) {
		t.Fatal("the keys of this test don't rise")
	}
	for _, order := range []int{3, 4, 7, 64} {
		x := made[string](t, order)
		for i := range rising {
			key := rising[i*10%len(rising)]
			x.Put(key, "of "+key)
		}
		if keys := x.Keys("", ""); !slices.Equal(keys, rising) || x.Len() != len(rising) {
			t.Errorf("order %d: %q, want %q", order, keys, rising)
		}
		for i, from := range rising {
			got(t, x, from, "of "+from)
			for j, to := range rising {
				want := rising[min(i, j):j]
				if to == "" {
					want = rising[i:]
				}
				if keys := x.Keys(from, to); !slices.Equal(keys, want) {
					t.Fatalf("order %d: Keys(%q, %q): %q, want %q", order, from, to, keys, want)
				}
			}
		}
		if was, had := x.Cut(""); was != "of " || !had || x.Keys("", "")[0] != "\x00" {
			t.Errorf("order %d: Cut of the empty key: %q, %v", order, was, had)
		}
	}
}

// TestFullNode holds P7.1 and P7.3 of as many keys as one node has room for, and one more.
func TestFullNode(t *testing.T) {
	for _, order := range []int{3, 4, 5, 63, 64} {
		keys := numbered(order + 1)
		x := filled(t, order, keys[:order]...)
		if x.Len() != order || x.Depth() != 1 {
			t.Errorf("order %d: %d keys, depth %d, want depth 1", order, x.Len(), x.Depth())
		}
		x.Put(keys[order], order)
		if x.Len() != order+1 || x.Depth() != 2 {
			t.Errorf("order %d: %d keys, depth %d, want depth 2", order, x.Len(), x.Depth())
		}
		for i, key := range keys {
			got(t, x, key, i)
		}
		if !slices.Equal(x.Keys("", ""), keys) {
			t.Errorf("order %d: %q, want %q", order, x.Keys("", ""), keys)
		}
		x.Put(keys[0], 9)
		if x.Len() != order+1 || x.Depth() != 2 {
			t.Errorf("order %d, a key put anew: %d keys, depth %d", order, x.Len(), x.Depth())
		}
	}
}

// TestNil holds P7.1, of a nil tree.
func TestNil(t *testing.T) {
	refused, _ := New[int](0)
	for _, x := range []*Tree[int]{nil, refused, new(Tree[int])} {
		if x.Len() != 0 || x.Depth() != 0 {
			t.Errorf("%d keys, depth %d, want 0 and 0", x.Len(), x.Depth())
		}
		for _, key := range []string{"", "a", "\xff"} {
			was, had := x.Put(key, 1)
			nothing(t, "Put", was, had)
			was, had = x.Get(key)
			nothing(t, "Get", was, had)
			was, had = x.Cut(key)
			nothing(t, "Cut", was, had)
		}
		for _, to := range []string{"", "z"} {
			keys, vals := pairs(x.Scan("", to))
			if len(x.Keys("", to)) != 0 || len(keys) != 0 || len(vals) != 0 || x.Len() != 0 {
				t.Errorf("%q, %q, %v of no tree", x.Keys("", to), keys, vals)
			}
		}
	}
}

// TestRanges holds P7.2, of where Keys and Scan begin and end.
func TestRanges(t *testing.T) {
	keys := letters(10)
	cases := []struct {
		from, to string
		want     []string
	}{
		{"", "", keys},
		{"a", "", keys},
		{"", "k", keys},
		{"", "j", keys[:9]},
		{"", "a", nil},
		{"", "\x00", nil},
		{"c", "f", keys[2:5]},
		{"c", "d", keys[2:3]},
		{"c", "c", nil},
		{"c\x00", "c\x00", nil},
		{"f", "c", nil},
		{"z", "a", nil},
		{"c", "", keys[2:]},
		{"j", "", keys[9:]},
		{"j\x00", "", nil},
		{"k", "", nil},
		{"\xff", "", nil},
		{"bb", "ee", keys[2:5]},
		{"b", "ee", keys[1:5]},
		{"bb", "e", keys[2:4]},
		{"bb", "bbb", nil},
		{"A", "zz", keys},
		{"\x80", "\xff", nil},
	}
	for _, order := range []int{3, 4, 9, 10, 64} {
		x := filled(t, order, keys...)
		for _, c := range cases {
			if l := x.Keys(c.from, c.to); !slices.Equal(l, c.want) {
				t.Errorf("order %d: Keys(%q, %q): %q, want %q", order, c.from, c.to, l, c.want)
			}
			l, vals := pairs(x.Scan(c.from, c.to))
			if !slices.Equal(l, c.want) || len(vals) != len(c.want) {
				t.Errorf("order %d: Scan(%q, %q): %q, %v, want %q", order, c.from, c.to, l, vals, c.want)
			}
			for i, key := range l {
				if vals[i] != slices.Index(keys, key) {
					t.Errorf("order %d: Scan(%q, %q): %q has %d", order, c.from, c.to, key, vals[i])
				}
			}
		}
	}
}

// TestRangesOfFew holds P7.2 of trees without keys and with one.
func TestRangesOfFew(t *testing.T) {
	x := made[int](t, 3)
	one := filled(t, 3, "m")
	for _, from := range []string{"", "a", "m", "m\x00", "z"} {
		for _, to := range []string{"", "a", "m", "m\x00", "z"} {
			if l := x.Keys(from, to); len(l) != 0 {
				t.Errorf("Keys(%q, %q) of no key: %q", from, to, l)
			}
			want := from <= "m" && (to == "" || "m" < to)
			if l := one.Keys(from, to); slices.Equal(l, []string{"m"}) != want || len(l) > 1 {
				t.Errorf("Keys(%q, %q) of m: %q", from, to, l)
			}
		}
	}
}

// TestStop holds P7.2, of one who asks Scan to stop at the first key, in the midst, at the last and behind it.
func TestStop(t *testing.T) {
	keys := numbered(50)
	for _, order := range []int{3, 8, 64} {
		x := filled(t, order, keys...)
		for _, from := range []int{0, 1, 17, 49} {
			for most := 1; most <= 51; most++ {
				asked := 0
				x.Scan(keys[from], "")(func(key string, v int) bool {
					if v != from+asked || key != keys[v] {
						t.Fatalf("order %d from %d: %q, %d is number %d", order, from, key, v, asked)
					}
					asked++
					return asked < most
				})
				if asked != min(most, 50-from) {
					t.Fatalf("order %d from %d, stop at %d: asked %d times", order, from, most, asked)
				}
			}
		}
	}
}

// TestScanAnew holds P7.2 of a Scan that is gone through twice, the first time not to its end.
func TestScanAnew(t *testing.T) {
	x := filled(t, 3, letters(10)...)
	s := x.Scan("b", "h")
	for key := range s {
		if key == "d" {
			break
		}
	}
	for range 2 {
		if keys, vals := pairs(s); !slices.Equal(keys, letters(7)[1:]) || !slices.Equal(vals, []int{1, 2, 3, 4, 5, 6}) {
			t.Errorf("%q, %v", keys, vals)
		}
	}
}

// TestScanOfThen holds P7.2 of a tree that is changed while a Scan of it is gone through: what is told is what was there when Scan was called, and all ends.
func TestScanOfThen(t *testing.T) {
	change := map[string]func(*Tree[int], string){
		"cut this":   func(x *Tree[int], key string) { x.Cut(key) },
		"cut others": func(x *Tree[int], key string) { x.Cut("00007"); x.Cut("00030"); x.Cut("00059") },
		"put behind": func(x *Tree[int], key string) { x.Put(key+"x", -1); x.Put("9"+key, -1) },
		"put anew":   func(x *Tree[int], key string) { x.Put("00020", -1); x.Put(key, -1) },
		"cut all": func(x *Tree[int], key string) {
			for _, k := range x.Keys("", "") {
				x.Cut(k)
			}
		},
	}
	keys := numbered(60)
	for name, f := range change {
		for _, order := range []int{3, 4, 64} {
			x := filled(t, order, keys...)
			s := x.Scan("", "")
			f(x, "00001")
			var told []string
			for key, v := range s {
				if v != len(told) {
					t.Fatalf("%s: %q has %d", name, key, v)
				}
				told = append(told, key)
				f(x, key)
			}
			if !slices.Equal(told, keys) {
				t.Errorf("%s, order %d: %q", name, order, told)
			}
			sound(t, x)
		}
	}
}

// TestKeysAreNew holds P7.2 and rule 3: lists that Keys answers are in memory of their own.
func TestKeysAreNew(t *testing.T) {
	for _, order := range []int{3, 64} {
		want := letters(9)
		x := filled(t, order, want...)
		first, second := x.Keys("", ""), x.Keys("", "")
		first = first[:cap(first)]
		for i := range first {
			first[i] = "!"
		}
		if !slices.Equal(second, want) || !slices.Equal(x.Keys("", ""), want) {
			t.Errorf("order %d: %q and %q, want %q", order, second, x.Keys("", ""), want)
		}
		x.Put("aa", 1)
		x.Cut("b")
		if !slices.Equal(second, want) {
			t.Errorf("order %d: %q behind a Put and a Cut, want %q", order, second, want)
		}
	}
}

// TestDepth holds P7.3 at each order that may be, of keys put and cut rising.
func TestDepth(t *testing.T) {
	for order := 3; order <= api.MaxOrder; order++ {
		x := made[int](t, order)
		deep := 1
		for i, key := range numbered(1200) {
			x.Put(key, i)
			d := x.Depth()
			if d != deep && d != deep+1 {
				t.Fatalf("order %d, %d keys: depth %d behind %d", order, i+1, d, deep)
			}
			deep = d
			levels(t, x)
		}
		if deep < 2 {
			t.Errorf("order %d, 1200 keys: depth %d", order, deep)
		}
		for i, key := range numbered(1200) {
			x.Cut(key)
			if d := x.Depth(); d > deep {
				t.Fatalf("order %d, %d keys cut: depth %d behind %d", order, i+1, d, deep)
			}
			deep = x.Depth()
			levels(t, x)
		}
		if x.Depth() != 1 || x.Len() != 0 {
			t.Errorf("order %d, all cut: depth %d, %d keys", order, x.Depth(), x.Len())
		}
	}
}

type place struct {
	Name string
	At   [2]int
}

// TestTypes holds P7.1 and P7.2 of trees over numbers, texts, truths, structs, lists, maps, pointers and any.
func TestTypes(t *testing.T) {
	holds(t, 1, 0, -5, math.MaxInt)
	holds(t, uint8(0), 255)
	holds(t, "", "a", "\xff", "é")
	holds(t, true, false)
	holds(t, 0.5, math.Inf(-1), 0)
	holds(t, place{}, place{"x", [2]int{1, 2}})
	holds(t, struct{}{})
	holds(t, []int{1, 2}, nil, []int{}, []int{3})
	holds(t, [][]string{{"a"}, nil}, nil)
	holds(t, api.Many{Row: []api.Value{{Kind: api.TInt, N: 3}}, N: 1}, api.Many{})
	holds(t, map[string]int{"a": 1}, nil)
	holds(t, &place{Name: "y"}, nil)
	holds[any](t, 1, "a", nil, []int{2})
}

// holds puts vals under many keys, one after the other, and holds that each is told as it was put.
func holds[V any](t *testing.T, vals ...V) {
	t.Helper()
	x := made[V](t, 3)
	keys := numbered(40)
	for i, key := range keys {
		was, had := x.Put(key, vals[i%len(vals)])
		nothing(t, "Put", was, had)
	}
	_, told := pairs(x.Scan("", ""))
	for i, key := range keys {
		v, next := vals[i%len(vals)], vals[(i+1)%len(vals)]
		got(t, x, key, v)
		if !reflect.DeepEqual(told[i], v) {
			t.Errorf("Scan tells %v of %q, want %v", told[i], key, v)
		}
		if was, had := x.Put(key, next); !had || !reflect.DeepEqual(was, v) {
			t.Errorf("Put(%q): %v, %v, want %v", key, was, had, v)
		}
		if was, had := x.Cut(key); !had || !reflect.DeepEqual(was, next) {
			t.Errorf("Cut(%q): %v, %v, want %v", key, was, had, next)
		}
		v, there := x.Get(key)
		nothing(t, "Get behind Cut", v, there)
	}
}

// TestSideBySide holds P7.1: what is done to one tree is not to be seen in another.
func TestSideBySide(t *testing.T) {
	keys := numbered(100)
	x, y := filled(t, 3, keys...), filled(t, 3, keys...)
	z := made[string](t, 64)
	for i, key := range keys {
		if i%2 == 0 {
			x.Cut(key)
			y.Put(key, -1)
			z.Put(key, key)
		} else {
			y.Cut(key)
		}
	}
	for i, key := range keys {
		v, there := x.Get(key)
		w, other := y.Get(key)
		s, third := z.Get(key)
		if even := i%2 == 0; there == even || other != even || third != even {
			t.Fatalf("%q: %v, %v, %v", key, there, other, third)
		}
		if there && v != i || other && w != -1 || third && s != key {
			t.Errorf("%q: %d, %d, %q", key, v, w, s)
		}
	}
	if x.Len() != 50 || y.Len() != 50 || z.Len() != 50 {
		t.Errorf("%d, %d, %d keys, want 50 each", x.Len(), y.Len(), z.Len())
	}
	sound(t, x)
	sound(t, y)
	sound(t, z)
}

// levels holds P7.3 of x: it has as many keys as its depth asks for.
func levels[V any](t *testing.T, x *Tree[V]) {
	t.Helper()
	d := x.Depth()
	if x.Len() == 0 {
		if d != 1 {
			t.Fatalf("order %d, no keys: depth %d", x.order, d)
		}
		return
	}
	least := 1
	for range d - 1 {
		least *= x.order/2 + 1
	}
	if d < 1 || x.Len() < least {
		t.Fatalf("order %d, %d keys: depth %d, which %d keys must have", x.order, x.Len(), d, least)
	}
}

// sound holds that x is a B+tree: all leaves on one level, each node with no more keys than order, and, but the root, with no fewer than half, all where the keys above them say.
func sound[V any](t *testing.T, x *Tree[V]) {
	t.Helper()
	levels(t, x)
	var all []string
	var look func(n *node[V], level int, from, to string)
	look = func(n *node[V], level int, from, to string) {
		if len(n.keys) > x.order || n != x.root && len(n.keys) < x.order/2 {
			t.Fatalf("order %d: a node with keys %q", x.order, n.keys)
		}
		if n.leaf() != (level == x.Depth()) || n.leaf() && len(n.keys) != len(n.vals) {
			t.Fatalf("order %d: at level %d of %d a node with keys %q", x.order, level, x.Depth(), n.keys)
		}
		for i, key := range n.keys {
			if i > 0 && n.keys[i-1] >= key || key < from || to != "" && key >= to {
				t.Fatalf("order %d: between %q and %q a node with keys %q", x.order, from, to, n.keys)
			}
		}
		if n.leaf() {
			all = append(all, n.keys...)
			return
		}
		if len(n.kids) != len(n.keys)+1 || n.vals != nil {
			t.Fatalf("order %d: %d kids beside keys %q", x.order, len(n.kids), n.keys)
		}
		bounds := slices.Concat([]string{from}, n.keys, []string{to})
		for i, kid := range n.kids {
			look(kid, level+1, bounds[i], bounds[i+1])
		}
	}
	look(x.root, 1, "", "")
	if x.Len() != len(all) || !slices.Equal(all, x.Keys("", "")) {
		t.Fatalf("order %d: Len %d, Keys %q, in the leaves %q", x.order, x.Len(), x.Keys("", ""), all)
	}
}

func Example() {
	t, _ := New[int](3)
	for i, key := range []string{"a", "b", "c", "d", "e", "f", "g", "h", "i", "j"} {
		t.Put(key, i)
	}
	d, there := t.Get("d")
	fmt.Println(t.Len(), d, there, t.Keys("c", "f"), cmp.Compare(t.Depth(), 1))
	for key, v := range t.Scan("h", "") {
		fmt.Println(key, v)
	}
	// Output:
	// 10 3 true [c d e] 1
	// h 7
	// i 8
	// j 9
}

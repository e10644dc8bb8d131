package tree

import (
	"maps"
	"math/rand"
	"slices"
	"testing"

	"belvedere/api"
)

// orders is keys rising, falling, mixed, and from both ends to the midst.
func orders(keys []string) map[string][]string {
	falling := slices.Clone(keys)
	slices.Reverse(falling)
	mixed := slices.Clone(keys)
	rand.New(rand.NewSource(7)).Shuffle(len(mixed), func(i, j int) { mixed[i], mixed[j] = mixed[j], mixed[i] })
	var ends []string
	for i := range keys {
		if i%2 == 0 {
			ends = append(ends, keys[i/2])
		} else {
			ends = append(ends, keys[len(keys)-1-i/2])
		}
	}
	return map[string][]string{"rising": keys, "falling": falling, "mixed": mixed, "ends": ends}
}

// TestPutAndCutAll holds P7.1 to P7.3 of trees to which keys are put in one order, and from which all are cut in another.
func TestPutAndCutAll(t *testing.T) {
	for _, order := range []int{3, 4, 5, 6, 7, 16, 63, 64} {
		keys := numbered(max(70, order*4))
		for putting, puts := range orders(keys) {
			for cutting, cuts := range orders(keys) {
				x := made[int](t, order)
				rows := map[string]int{}
				for i, key := range puts {
					putOne(t, x, rows, key, i)
				}
				for _, key := range cuts {
					cutOne(t, x, rows, key)
				}
				if x.Len() != 0 || x.Depth() != 1 || len(x.Keys("", "")) != 0 {
					t.Fatalf("order %d, put %s, cut %s: %d keys, depth %d are left", order, putting, cutting, x.Len(), x.Depth())
				}
			}
		}
	}
}

// TestManyCalls holds P7.1 to P7.3 of trees that many calls have changed, growing at first, then shrinking, against a map.
func TestManyCalls(t *testing.T) {
	r := rand.New(rand.NewSource(1))
	for _, order := range []int{3, 3, 4, 5, 8, 9, 31, 64} {
		x, rows := made[int](t, order), map[string]int{}
		for i := range 4000 {
			key := some(r)
			if (r.Intn(10) < 7) == (i/1000%2 == 0) {
				putOne(t, x, rows, key, r.Intn(5))
			} else {
				cutOne(t, x, rows, key)
			}
			if i%20 == 0 {
				asked(t, r, x, rows)
			}
		}
	}
}

// TestEveryRightOrder holds P7.1 and P7.3 at each order that may be.
func TestEveryRightOrder(t *testing.T) {
	for order := 3; order <= api.MaxOrder; order++ {
		r := rand.New(rand.NewSource(int64(order)))
		x, rows := made[int](t, order), map[string]int{}
		for i := range 900 {
			if key := some(r); i < 500 {
				x.Put(key, i)
				rows[key] = i
			} else {
				x.Cut(key)
				delete(rows, key)
			}
		}
		sound(t, x)
		asked(t, r, x, rows)
		for _, key := range slices.Sorted(maps.Keys(rows)) {
			cutOne(t, x, rows, key)
		}
	}
}

// some is a key of up to four bytes of few kinds, so that many are put twice, and many begin others.
func some(r *rand.Rand) string {
	b := make([]byte, r.Intn(5))
	for i := range b {
		b[i] = "\x00ab\x7f\x80\xff"[r.Intn(6)]
	}
	return string(b)
}

func putOne(t *testing.T, x *Tree[int], rows map[string]int, key string, v int) {
	t.Helper()
	want, there := rows[key]
	if was, had := x.Put(key, v); was != want || had != there {
		t.Fatalf("order %d: Put(%q): %d, %v, want %d, %v", x.order, key, was, had, want, there)
	}
	rows[key] = v
	near(t, x, rows, key)
}

func cutOne(t *testing.T, x *Tree[int], rows map[string]int, key string) {
	t.Helper()
	want, there := rows[key]
	if was, had := x.Cut(key); was != want || had != there {
		t.Fatalf("order %d: Cut(%q): %d, %v, want %d, %v", x.order, key, was, had, want, there)
	}
	delete(rows, key)
	near(t, x, rows, key)
}

// near holds what can soon be told of x behind a change at key.
func near(t *testing.T, x *Tree[int], rows map[string]int, key string) {
	t.Helper()
	want, there := rows[key]
	if v, has := x.Get(key); v != want || has != there || x.Len() != len(rows) {
		t.Fatalf("order %d: Get(%q): %d, %v, want %d, %v; Len %d, want %d", x.order, key, v, has, want, there, x.Len(), len(rows))
	}
	sound(t, x)
}

// asked holds what Get, Keys and Scan tell of all of x, and of a range, against rows.
func asked(t *testing.T, r *rand.Rand, x *Tree[int], rows map[string]int) {
	t.Helper()
	for key, v := range rows {
		got(t, x, key, v)
	}
	from, to := some(r), some(r)
	if r.Intn(4) == 0 {
		from = ""
	}
	var want []string
	for _, key := range slices.Sorted(maps.Keys(rows)) {
		if key >= from && (to == "" || key < to) {
			want = append(want, key)
		}
	}
	keys, vals := pairs(x.Scan(from, to))
	if !slices.Equal(keys, want) || !slices.Equal(x.Keys(from, to), want) {
		t.Fatalf("order %d: Scan(%q, %q): %q, Keys %q, want %q", x.order, from, to, keys, x.Keys(from, to), want)
	}
	for i, key := range keys {
		if vals[i] != rows[key] {
			t.Fatalf("order %d: Scan tells %d of %q, want %d", x.order, vals[i], key, rows[key])
		}
	}
}

package code

import (
	"bytes"
	"math"
	"math/big"
	"math/rand"
	"slices"
	"strings"
	"testing"

	"belvedere/api"
	"belvedere/value"
)

func num(n int) api.Value            { return api.Value{Kind: api.TInt, N: n} }
func held(n int) api.Value           { return api.Value{Kind: api.TBool, N: n} }
func text(s string) api.Value        { return api.Value{Kind: api.TText, S: s} }
func row(l ...api.Value) []api.Value { return l }

var nothing = api.Value{}

// longest are the longest texts, of each byte that keys treat in a way of its own, and of others.
func longest() []string {
	var l []string
	for _, s := range []string{"\x00", "\x01", "\xfe", "\xff", "a", "\x00\xff", "\xff\x00", "\x00\x00\xff\xff"} {
		l = append(l, strings.Repeat(s, api.MaxText/len(s)))
	}
	return l
}

// texts are all of at most three bytes out of the ends and what is beside them, and longer ones.
func texts() []string {
	l := []string{""}
	for i := 0; len(l[i]) < 3; i++ {
		for _, c := range []string{"\x00", "\x01", "a", "\xfe", "\xff"} {
			l = append(l, l[i]+c)
		}
	}
	for _, s := range longest() {
		l = append(l, s, s[:63], s[1:])
	}
	return append(l, "it's", "é", "\x00\xff\x00\x00", "a\x00\x00\x01")
}

func numbers() []int {
	l := []int{math.MinInt, math.MinInt + 1, -1, 0, 1, math.MaxInt - 1, math.MaxInt}
	for shift := 1; shift < 63; shift++ {
		l = append(l, 1<<shift, -1<<shift, 1<<shift-1, -1<<shift-1)
	}
	return l
}

// values are such as may be.
func values() []api.Value {
	l := []api.Value{nothing, held(0), held(1)}
	for _, n := range numbers() {
		l = append(l, num(n))
	}
	for _, s := range texts() {
		l = append(l, text(s))
	}
	return l
}

// some are few values that may be, each of which stands in a way of its own.
func some() []api.Value {
	return []api.Value{nothing, num(math.MinInt), num(-1), num(0), num(math.MaxInt), held(0), held(1),
		text(""), text("\x00"), text("\x00\x01"), text("\x01"), text("a"), text("a\x00"), text("a\xff"), text("\xff")}
}

// rows are such as may be: of no value, of each, of each two and three out of some, of the greatest number.
func rows() [][]api.Value {
	l := [][]api.Value{nil}
	for _, v := range values() {
		l = append(l, row(v), slices.Repeat(row(v), 8), row(nothing, v, num(1), v))
	}
	for _, a := range some() {
		for _, b := range some() {
			l = append(l, row(a, b))
			for _, c := range some() {
				l = append(l, row(a, b, c))
			}
		}
	}
	return append(l, some()[:8], some()[7:])
}

// wrong are values that may not be, with the error of each.
func wrong() map[api.Value]api.Errno {
	return map[api.Value]api.Errno{
		{N: 1}:                            api.ErrArg,
		{S: "a"}:                          api.ErrArg,
		{Kind: api.TInt, S: "a"}:          api.ErrArg,
		{Kind: api.TBool, N: 2}:           api.ErrArg,
		{Kind: api.TBool, N: -1}:          api.ErrArg,
		{Kind: api.TBool, N: 256}:         api.ErrArg,
		{Kind: api.TBool, N: 1, S: "a"}:   api.ErrArg,
		{Kind: api.TText, N: 1, S: "a"}:   api.ErrArg,
		{Kind: api.TText, N: -1}:          api.ErrArg,
		{Kind: 4}:                         api.ErrArg,
		{Kind: -1}:                        api.ErrArg,
		{Kind: 256}:                       api.ErrArg,
		{Kind: 259, S: "a"}:               api.ErrArg,
		{Kind: math.MinInt}:               api.ErrArg,
		{Kind: math.MaxInt}:               api.ErrArg,
		text(strings.Repeat("x", 65)):     api.ErrLong,
		text(strings.Repeat("\x00", 255)): api.ErrLong,
		text(strings.Repeat("x", 256)):    api.ErrLong,
		text(strings.Repeat("x", 5000)):   api.ErrLong,
		{Kind: api.TText, N: 1, S: strings.Repeat("x", 65)}: api.ErrArg,
	}
}

// bytesOf reckons the eight bytes of a number that isn't below 0.
func bytesOf(n *big.Int) string { return string(n.FillBytes(make([]byte, 8))) }

// plainBytes tells a value by the words of P3.1.
func plainBytes(v api.Value) string {
	switch v.Kind {
	case api.TInt:
		n := big.NewInt(int64(v.N))
		if v.N < 0 {
			n.Add(n, new(big.Int).Lsh(big.NewInt(1), 64))
		}
		return "\x01" + bytesOf(n)
	case api.TBool:
		return "\x02" + string([]byte{byte(v.N)})
	case api.TText:
		return "\x03" + string([]byte{byte(len(v.S))}) + v.S
	}
	return "\x00"
}

// sortedBytes tells a value by the words of P3.2.
func sortedBytes(v api.Value) string {
	switch v.Kind {
	case api.TInt:
		n := big.NewInt(int64(v.N))
		return "\x02" + bytesOf(n.Add(n, new(big.Int).Lsh(big.NewInt(1), 63)))
	case api.TBool:
		return "\x03" + string([]byte{byte(v.N)})
	case api.TText:
		return "\x04" + strings.ReplaceAll(v.S, "\x00", "\x00\xff") + "\x00\x00"
	}
	return "\x01"
}

func joined(l []api.Value, f func(api.Value) string) string {
	var b strings.Builder
	for _, v := range l {
		b.WriteString(f(v))
	}
	return b.String()
}

// TestRowBytes holds P3.1: Row, by bytes that are written out.
func TestRowBytes(t *testing.T) {
	for _, c := range []struct {
		l    []api.Value
		want string
	}{
		{nil, ""},
		{row(), ""},
		{row(nothing), "\x00"},
		{row(num(1), nothing), "\x01\x00\x00\x00\x00\x00\x00\x00\x01\x00"},
		{row(num(0)), "\x01\x00\x00\x00\x00\x00\x00\x00\x00"},
		{row(num(-1)), "\x01\xff\xff\xff\xff\xff\xff\xff\xff"},
		{row(num(-2)), "\x01\xff\xff\xff\xff\xff\xff\xff\xfe"},
		{row(num(math.MinInt)), "\x01\x80\x00\x00\x00\x00\x00\x00\x00"},
		{row(num(math.MaxInt)), "\x01\x7f\xff\xff\xff\xff\xff\xff\xff"},
		{row(num(0x0102030405060708)), "\x01\x01\x02\x03\x04\x05\x06\x07\x08"},
		{row(held(0), held(1)), "\x02\x00\x02\x01"},
		{row(text("")), "\x03\x00"},
		{row(text("abc")), "\x03\x03abc"},
		{row(text("\x00\xff"), text("it's")), "\x03\x02\x00\xff\x03\x04it's"},
		{row(text("é")), "\x03\x02\xc3\xa9"},
		{row(text(strings.Repeat("x", 64))), "\x03\x40" + strings.Repeat("x", 64)},
		{slices.Repeat(row(nothing), 8), "\x00\x00\x00\x00\x00\x00\x00\x00"},
		{slices.Repeat(row(text(strings.Repeat("\x00", 64))), 8), strings.Repeat("\x03\x40"+strings.Repeat("\x00", 64), 8)},
	} {
		if got, err := Row(c.l); got != c.want || err != api.OK {
			t.Errorf("Row(%+v) = %q, %d, want %q", c.l, got, err, c.want)
		}
	}
}

// TestKeyBytes holds P3.2: Key, by bytes that are written out.
func TestKeyBytes(t *testing.T) {
	for _, c := range []struct {
		l    []api.Value
		want string
	}{
		{nil, ""},
		{row(), ""},
		{row(nothing), "\x01"},
		{row(num(0)), "\x02\x80\x00\x00\x00\x00\x00\x00\x00"},
		{row(num(1), nothing), "\x02\x80\x00\x00\x00\x00\x00\x00\x01\x01"},
		{row(num(-1)), "\x02\x7f\xff\xff\xff\xff\xff\xff\xff"},
		{row(num(math.MinInt)), "\x02\x00\x00\x00\x00\x00\x00\x00\x00"},
		{row(num(math.MaxInt)), "\x02\xff\xff\xff\xff\xff\xff\xff\xff"},
		{row(num(0x0102030405060708)), "\x02\x81\x02\x03\x04\x05\x06\x07\x08"},
		{row(held(0), held(1)), "\x03\x00\x03\x01"},
		{row(text("")), "\x04\x00\x00"},
		{row(text("abc")), "\x04abc\x00\x00"},
		{row(text("a\x00")), "\x04a\x00\xff\x00\x00"},
		{row(text("\x00")), "\x04\x00\xff\x00\x00"},
		{row(text("\x00\x00")), "\x04\x00\xff\x00\xff\x00\x00"},
		{row(text("\xff")), "\x04\xff\x00\x00"},
		{row(text("\x00\xff")), "\x04\x00\xff\xff\x00\x00"},
		{row(text("\x01\xfe"), text("é")), "\x04\x01\xfe\x00\x00\x04\xc3\xa9\x00\x00"},
		{row(text(strings.Repeat("\x00", 64))), "\x04" + strings.Repeat("\x00\xff", 64) + "\x00\x00"},
		{slices.Repeat(row(nothing), 8), "\x01\x01\x01\x01\x01\x01\x01\x01"},
	} {
		if got, err := Key(c.l); got != c.want || err != api.OK {
			t.Errorf("Key(%+v) = %q, %d, want %q", c.l, got, err, c.want)
		}
	}
}

// TestWritten holds P3.1 and P3.2: Row and Key, of many rows, by the words of the chapter.
func TestWritten(t *testing.T) {
	for _, l := range rows() {
		if got, err := Row(l); got != joined(l, plainBytes) || err != api.OK {
			t.Fatalf("Row(%+v) = %q, %d, want %q", l, got, err, joined(l, plainBytes))
		}
		if got, err := Key(l); got != joined(l, sortedBytes) || err != api.OK {
			t.Fatalf("Key(%+v) = %q, %d, want %q", l, got, err, joined(l, sortedBytes))
		}
	}
}

// TestThereAndBack holds P3.3: Read of Row, and Back of Key, are the row.
func TestThereAndBack(t *testing.T) {
	for _, l := range rows() {
		s, _ := Row(l)
		if got, err := Read(s); err != api.OK || !slices.Equal(got, l) {
			t.Fatalf("Read(%q) = %+v, %d, want %+v", s, got, err, l)
		}
		s, _ = Key(l)
		if got, err := Back(s); err != api.OK || !slices.Equal(got, l) {
			t.Fatalf("Back(%q) = %+v, %d, want %+v", s, got, err, l)
		}
	}
}

// refused holds that neither Row nor Key tells l.
func refused(t *testing.T, l []api.Value, want api.Errno) {
	t.Helper()
	if got, err := Row(l); got != "" || err != want {
		t.Errorf("Row(%+v) = %q, %d, want error %d", l, got, err, want)
	}
	if got, err := Key(l); got != "" || err != want {
		t.Errorf("Key(%+v) = %q, %d, want error %d", l, got, err, want)
	}
}

// TestWrongRows holds P3.1's and P3.2's errors of rows, in the order in which they are named.
func TestWrongRows(t *testing.T) {
	for _, n := range []int{9, 10, 16, 256, 5000} {
		refused(t, make([]api.Value, n), api.ErrLong)
		refused(t, slices.Repeat(row(text("a")), n), api.ErrLong)
	}
	tooLong := text(strings.Repeat("x", 65))
	mayNotBe := api.Value{Kind: 4}
	for v, want := range wrong() {
		refused(t, row(v), want)
		refused(t, slices.Repeat(row(v), 9), api.ErrLong)
		for at := range 8 {
			l := slices.Repeat(row(num(1)), 8)
			l[at] = v
			refused(t, l, want)
		}
		refused(t, row(num(1), v, tooLong), want)
		refused(t, row(num(1), v, mayNotBe), want)
	}
	refused(t, row(tooLong, mayNotBe), api.ErrLong)
	refused(t, row(mayNotBe, tooLong), api.ErrArg)
}

// TestReadWrong holds P3.1: bytes that are those of no row.
func TestReadWrong(t *testing.T) {
	for _, s := range []string{
		"\x01", "\x01\x00\x00\x00\x00\x00\x00\x00", "\x02", "\x03", "\x03\x01", "\x03\x02a", "\x03\xff",
		"\x02\x02", "\x02\xff", "\x04", "\x05", "\xff", "\x04\x00\x00", "a",
		"\x00\x01", "\x00\x04", "\x02\x01\x02", "\x02\x01\xff", "\x03\x01a\x03", "\x03\x01a!",
		"\x01\x00\x00\x00\x00\x00\x00\x00\x01\x01",
		"\x03\x40" + strings.Repeat("x", 63),
		"\x03\x41" + strings.Repeat("x", 65),
		"\x03\xff" + strings.Repeat("x", 255),
		strings.Repeat("\x00", 9),
		strings.Repeat("\x00", 5000),
		strings.Repeat("\x02\x01", 9),
		strings.Repeat("\x03\x00", 8) + "\xff",
	} {
		if l, err := Read(s); l != nil || err != api.ErrForm {
			t.Errorf("Read(%q) = %+v, %d, want error %d", s, l, err, api.ErrForm)
		}
	}
}

// TestBackWrong holds P3.2: keys that are those of no row.
func TestBackWrong(t *testing.T) {
	for _, s := range []string{
		"\x00", "\x00\x01", "\x01\x00", "\x05", "\xff", "\x01\x05", "a",
		"\x02", "\x02\x80\x00\x00\x00\x00\x00\x00", "\x03", "\x03\x02", "\x03\xff", "\x01\x02", "\x03\x01\x03",
		"\x04", "\x04\x00", "\x04a", "\x04a\x00", "\x04a\x00\xff", "\x04a\x00\xff\x00", "\x04\x00\xff", "\x04\xff",
		"\x04\x00\x01", "\x04\x00\x01\x00\x00", "\x04a\x00\xfe\x00\x00", "\x04\x00a\x00\x00",
		"\x04a\x00\x00\x00", "\x04a\x00\x00\xff", "\x04a\x00\x00\xff\x00\x00", "\x04\x00\x00\x04",
		"\x04" + strings.Repeat("x", 65) + "\x00\x00",
		"\x04" + strings.Repeat("\x00\xff", 65) + "\x00\x00",
		"\x04" + strings.Repeat("x", 5000) + "\x00\x00",
		"\x04" + strings.Repeat("x", 64) + "\x00",
		strings.Repeat("\x01", 9),
		strings.Repeat("\x01", 5000),
		strings.Repeat("\x04\x00\x00", 9),
		strings.Repeat("\x03\x00", 8) + "\x00",
	} {
		if l, err := Back(s); l != nil || err != api.ErrForm {
			t.Errorf("Back(%q) = %+v, %d, want error %d", s, l, err, api.ErrForm)
		}
	}
}

// onlyItsOwn holds that Read, and Back, answer a row just of what Row, and Key, tell of it.
func onlyItsOwn(t *testing.T, s string) {
	t.Helper()
	for _, way := range []struct {
		name string
		from func(string) ([]api.Value, api.Errno)
		to   func(api.Value) string
	}{
		{"Read", Read, plainBytes},
		{"Back", Back, sortedBytes},
	} {
		l, err := way.from(s)
		if err == api.ErrForm && l == nil {
			continue
		}
		if err != api.OK || len(l) > api.MaxCols || joined(l, way.to) != s {
			t.Fatalf("%s(%q) = %+v, %d", way.name, s, l, err)
		}
		for _, v := range l {
			if value.Check(v) != api.OK {
				t.Fatalf("%s(%q) has %+v", way.name, s, v)
			}
		}
	}
}

// TestOnlyItsOwn holds P3.1 and P3.2 of Read and Back at many bytes: short ones, and those of rows with one changed,
// left out or put in, cut off, with something behind.
func TestOnlyItsOwn(t *testing.T) {
	short := []string{""}
	for i := 0; len(short[i]) < 5; i++ {
		for _, c := range []string{"\x00", "\x01", "\x02", "\x03", "\x04", "\x05", "\xff"} {
			short = append(short, short[i]+c)
		}
	}
	for _, s := range short {
		onlyItsOwn(t, s)
	}
	r := rand.New(rand.NewSource(1))
	for _, l := range rows() {
		for _, s := range []string{joined(l, plainBytes), joined(l, sortedBytes)} {
			for range 10 {
				at, c := r.Intn(len(s)+1), string([]byte{byte(r.Intn(256))})
				onlyItsOwn(t, s[:at])
				onlyItsOwn(t, s[at:])
				onlyItsOwn(t, s[:at]+c+s[at:])
				onlyItsOwn(t, s[:at]+c+s[min(at+1, len(s)):])
				onlyItsOwn(t, s+c)
			}
		}
	}
}

// TestCutOff holds P3.1 and P3.2: cut off within a value it is no row, cut off between two it is the shorter one.
func TestCutOff(t *testing.T) {
	for _, l := range [][]api.Value{
		row(num(-5), text("a\x00b"), held(1), nothing, num(7)),
		row(text(strings.Repeat("\x00", 64)), text(""), text("\xff\x00")),
		slices.Repeat(row(num(1)), 8),
	} {
		cutOff(t, l, Read, plainBytes)
		cutOff(t, l, Back, sortedBytes)
	}
}

func cutOff(t *testing.T, l []api.Value, from func(string) ([]api.Value, api.Errno), to func(api.Value) string) {
	t.Helper()
	whole := map[int]int{}
	for n := range len(l) + 1 {
		whole[len(joined(l[:n], to))] = n
	}
	s := joined(l, to)
	for at := range len(s) + 1 {
		got, err := from(s[:at])
		n, ends := whole[at]
		if ends && (err != api.OK || !slices.Equal(got, l[:n])) || !ends && (err != api.ErrForm || got != nil) {
			t.Errorf("of %q: %+v, %d", s[:at], got, err)
		}
	}
}

// TestKeysOrder holds P3.3: keys stand to one another as their rows do, and begin one another as their rows do.
func TestKeysOrder(t *testing.T) {
	l := rows()
	keys := make([]string, len(l))
	for i := range l {
		keys[i], _ = Key(l[i])
	}
	for i, a := range l {
		for j, b := range l {
			if got, want := strings.Compare(keys[i], keys[j]), value.Rows(a, b); got != want {
				t.Fatalf("keys of %+v and %+v stand as %d, the rows as %d", a, b, got, want)
			}
			begins := len(a) <= len(b) && slices.Equal(a, b[:len(a)])
			if got := strings.HasPrefix(keys[j], keys[i]); got != begins {
				t.Fatalf("the key of %+v begins that of %+v: %t, the row: %t", a, b, got, begins)
			}
		}
	}
}

// TestUnlikeRows holds P3.3: no two rows are told by the same bytes.
func TestUnlikeRows(t *testing.T) {
	plain, sorted := map[string][]api.Value{}, map[string][]api.Value{}
	for _, l := range rows() {
		s, _ := Row(l)
		k, _ := Key(l)
		if other, there := plain[s]; there && !slices.Equal(other, l) {
			t.Errorf("%+v and %+v are both told by %q", other, l, s)
		}
		if other, there := sorted[k]; there && !slices.Equal(other, l) {
			t.Errorf("%+v and %+v have both the key %q", other, l, k)
		}
		plain[s], sorted[k] = l, l
	}
}

// TestShort holds that no row's bytes come to MaxRow, and that the longest row is told.
func TestShort(t *testing.T) {
	l := slices.Repeat(row(text(strings.Repeat("\xff", 64))), 8)
	if s, err := Row(l); err != api.OK || len(s) != 8*66 || len(s) >= api.MaxRow {
		t.Errorf("the longest row: %d bytes, %d", len(s), err)
	}
}

// TestAnyArguments holds P1, and that what is handed in, its spare room too, is left as it is, and what is answered is new.
func TestAnyArguments(t *testing.T) {
	for v := range wrong() {
		Row(row(v, v))
		Key(row(v, v))
	}
	room := slices.Repeat(row(text("a\x00"), num(3)), 4)
	before := slices.Clone(room)
	Row(room[:3])
	Key(room[:3])
	if !slices.Equal(room, before) {
		t.Error("what was handed in was changed")
	}
	for _, way := range []struct {
		from func(string) ([]api.Value, api.Errno)
		to   func([]api.Value) (string, api.Errno)
	}{{Read, Row}, {Back, Key}} {
		s, _ := way.to(before)
		first, _ := way.from(s)
		first[0] = num(9)
		if second, _ := way.from(s); !slices.Equal(second, before) {
			t.Error("an answer was changed through another one")
		}
	}
	all := bytes.Repeat([]byte{0}, 256)
	for i := range all {
		all[i] = byte(i)
	}
	for i := range all {
		onlyItsOwn(t, string(all[i:]))
		onlyItsOwn(t, string(all[i:i+1]))
	}
}

package lex

import (
	"math/big"
	"math/rand"
	"regexp"
	"slices"
	"strings"
	"testing"

	"belvedere/api"
)

// shape is what words look like, but that a text's end is looked for apart, and that not all numbers may be.
var shape = regexp.MustCompile(`^(?:([a-z_][a-z_0-9]*)|([0-9]+)([a-z_]?)|(')|(<>|<=|>=|[(),.*+\-=<>]))`)

// model answers the words of a command that isn't too long, by the words of P8.1.
func model(s string) ([]api.Word, int, api.Errno) {
	var l []api.Word
	for at := 0; at < len(s); {
		if s[at] == ' ' {
			at++
			continue
		}
		w, end := first(s[at:])
		if end == 0 {
			return nil, at, api.ErrSyntax
		}
		if len(l) >= 512 {
			return nil, at, api.ErrLong
		}
		w.At = at
		l = append(l, w)
		at += end
	}
	return append(l, ended(len(s))), 0, api.OK
}

func first(s string) (api.Word, int) {
	m := shape.FindStringSubmatch(s)
	switch {
	case m == nil:
		return api.Word{}, 0
	case m[1] != "":
		return named(m[1], 0), len(m[1])
	case m[2] != "":
		n, _ := new(big.Int).SetString(m[2], 10)
		if m[3] != "" || n.String() != m[2] || n.Cmp(new(big.Int).Lsh(big.NewInt(1), 63)) > 0 {
			return api.Word{}, 0
		}
		return numbered(n.Uint64(), 0), len(m[2])
	case m[4] != "":
		return firstText(s)
	}
	return signed(m[5], 0), len(m[5])
}

// firstText ends a text behind the first run of signs ' whose number is odd.
func firstText(s string) (api.Word, int) {
	for i := 1; i < len(s); {
		run := len(s[i:]) - len(strings.TrimLeft(s[i:], "'"))
		if run%2 == 1 {
			return quoted(strings.ReplaceAll(s[1:i+run-1], "''", "'"), 0), i + run
		}
		i += run + 1
	}
	return api.Word{}, 0
}

// held holds what Words tells of s against the model.
func held(t *testing.T, s string) {
	t.Helper()
	l, at, err := Words(s)
	want, place, e := model(s)
	if !same(l, want) || at != place || err != e {
		t.Fatalf("Words(%q): %+v, %d, %d, want %+v, %d, %d", s, l, at, err, want, place, e)
	}
	if err != api.OK {
		if _, _, e := Words(s[:at]); e != api.OK {
			t.Fatalf("Words(%q), what is ahead of a fault: %d", s[:at], e)
		}
	}
}

// TestShortCommands holds P8.1 of all commands of at most five bytes out of such as stand for the others.
func TestShortCommands(t *testing.T) {
	var all func(s string)
	all = func(s string) {
		held(t, s)
		if len(s) == 5 {
			return
		}
		for _, c := range []byte(" a_01'<>=(A\x00\xff") {
			all(s + string([]byte{c}))
		}
	}
	all("")
}

// TestManyCommands holds P8.1 of many commands: pieces one behind the other, also past MaxTokens words, and any bytes at all.
func TestManyCommands(t *testing.T) {
	r := rand.New(rand.NewSource(1))
	pieces := []string{" ", "  ", "a", "b1", "select", "_", "0", "7", "12", "9223372036854775808", "9223372036854775809", "''", "'", "'x'", "'a b'",
		"<", ">", "=", "<>", "<=", ">=", "(", ")", ",", ".", "*", "+", "-", "#", "Z", "\n", "\xff"}
	for range 20000 {
		var b strings.Builder
		kinds := 28 + r.Intn(len(pieces)-27)
		for range r.Intn(20) {
			b.WriteString(pieces[r.Intn(kinds)])
		}
		held(t, b.String())
	}
	for range 2000 {
		var b strings.Builder
		for range 500 + r.Intn(20) {
			b.WriteString([]string{"a ", "7 ", "<=", ",", "'' "}[r.Intn(5)])
		}
		held(t, b.String()+pieces[r.Intn(len(pieces))])
	}
	for range 5000 {
		b := make([]byte, r.Intn(12))
		r.Read(b)
		held(t, string(b))
	}
}

// piece is a word as it is written, and what is read of it.
type piece struct {
	s string
	w api.Word
}

func pieces() []piece {
	l := []piece{
		{"0", numbered(0, 0)}, {"5", numbered(5, 0)}, {"10", numbered(10, 0)}, {"9223372036854775807", numbered(1<<63-1, 0)}, {"9223372036854775808", numbered(1<<63, 0)},
		{"''", quoted("", 0)}, {"''''", quoted("'", 0)}, {"'a'", quoted("a", 0)}, {"'a''b c'", quoted("a'b c", 0)}, {"' '", quoted(" ", 0)}, {"'\x00\xff\n'", quoted("\x00\xff\n", 0)},
	}
	for _, s := range []string{"a", "_", "t_1", "x0", "abcdefghijklmnopqrst", "select", "by", "null", "primary"} {
		l = append(l, piece{s, named(s, 0)})
	}
	for _, s := range strings.Fields("<> <= >= ( ) , . * + - = < >") {
		l = append(l, piece{s, signed(s, 0)})
	}
	return l
}

// apart tells whether there must be a blank between two words, lest they run together.
func apart(a, b piece) bool {
	switch a.w.Kind {
	case api.WName, api.WInt:
		return b.w.Kind == api.WName || b.w.Kind == api.WInt
	case api.WText:
		return b.w.Kind == api.WText
	}
	return a.s == "<" && strings.ContainsAny(b.s[:1], "=>") || a.s == ">" && b.s[:1] == "="
}

// TestOneBehindTheOther holds P8.3: words stand one behind the other, and blanks between, ahead and behind change but their places.
func TestOneBehindTheOther(t *testing.T) {
	all := pieces()
	for _, a := range all {
		for _, b := range all {
			if !apart(a, b) {
				read(t, a.s+b.s, a.w, moved(list(b.w), len(a.s))[0])
			}
			read(t, a.s+" "+b.s, a.w, moved(list(b.w), len(a.s)+1)[0])
		}
	}
	r := rand.New(rand.NewSource(3))
	for range 3000 {
		s, want := blanks(r.Intn(3)), list()
		last := piece{}
		for range r.Intn(30) {
			next := all[r.Intn(len(all))]
			least := 0
			if last.s != "" && apart(last, next) {
				least = 1
			}
			s += blanks(least + r.Intn(2)*r.Intn(4))
			want = append(want, moved(list(next.w), len(s))...)
			s += next.s
			last = next
		}
		read(t, s+blanks(r.Intn(3)), want...)
	}
}

// TestTwoCommands holds P8.3: two commands with a blank between have the words of both.
func TestTwoCommands(t *testing.T) {
	l := []string{"", " ", "a", "select a from t", "insert into t values (1, 'x''y')", "1", "0", "''", "'a'", "<", "<=", ">", "=", "(", ")", "-", ".",
		" show t ", "a <", "t.", "9223372036854775808", strings.Repeat("a ", 256), strings.Repeat("<", 256)}
	for _, a := range l {
		for _, b := range l {
			first, _, _ := Words(a)
			behind, _, _ := Words(b)
			read(t, a+" "+b, slices.Concat(first[:len(first)-1], moved(behind[:len(behind)-1], len(a)+1))...)
		}
	}
	many := strings.Repeat("a ", 256)
	refused(t, many+" "+many+" b", 1026, api.ErrLong)
	refused(t, "a 01", 2, api.ErrSyntax)
}

// TestBlanks holds P8.3: wherever there is a blank there may be more, and the words are the same, their places apart.
func TestBlanks(t *testing.T) {
	const s = " create view v refresh fast as select a , sum ( b ) as s from t where a <> 0 and b <= 'it''s' group by a "
	want, _, _ := Words(s)
	for _, n := range []int{2, 3, 7} {
		wide := strings.ReplaceAll(s, " ", blanks(n))
		l, at, err := Words(wide)
		if err != api.OK || at != 0 || len(l) != len(want) {
			t.Fatalf("Words(%q): %d words, %d, %d", wide, len(l), at, err)
		}
		for i := range l {
			w := l[i]
			w.At = want[i].At
			if w != want[i] {
				t.Errorf("%d blanks for one: %+v, want %+v", n, l[i], want[i])
			}
			if ahead := strings.Count(s[:want[i].At], " "); l[i].At != want[i].At+(n-1)*ahead {
				t.Errorf("%d blanks for one: %+v at %d", n, l[i], l[i].At)
			}
		}
	}
}

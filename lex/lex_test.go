package lex

import (
	"reflect"
	"slices"
	"strconv"
	"strings"
	"testing"

	"belvedere/api"
)

func named(s string, at int) api.Word    { return api.Word{Kind: api.WName, S: s, At: at} }
func numbered(n uint64, at int) api.Word { return api.Word{Kind: api.WInt, N: n, At: at} }
func quoted(s string, at int) api.Word   { return api.Word{Kind: api.WText, S: s, At: at} }
func signed(s string, at int) api.Word   { return api.Word{Kind: api.WSign, S: s, At: at} }
func ended(at int) api.Word              { return api.Word{Kind: api.WEnd, At: at} }
func list(l ...api.Word) []api.Word      { return l }
func blanks(n int) string                { return strings.Repeat(" ", n) }
func same(a, b []api.Word) bool          { return slices.Equal(a, b) }
func moved(l []api.Word, n int) []api.Word {
	l = slices.Clone(l)
	for i := range l {
		l[i].At += n
	}
	return l
}

// read holds that s has just these words, the end apart.
func read(t *testing.T, s string, want ...api.Word) {
	t.Helper()
	want = append(slices.Clone(want), ended(len(s)))
	if l, at, err := Words(s); !same(l, want) || at != 0 || err != api.OK {
		t.Errorf("Words(%q): %+v, %d, %d, want %+v", s, l, at, err, want)
	}
}

// refused holds that s has this fault, at this place.
func refused(t *testing.T, s string, at int, err api.Errno) {
	t.Helper()
	if l, a, e := Words(s); len(l) != 0 || a != at || e != err {
		t.Errorf("Words(%q): %+v, %d, %d, want no words, %d, %d", s, l, a, e, at, err)
	}
}

// alone holds that w, which s begins with and which ends with it, is read, with and without blanks and signs around, and ahead of a fault.
func alone(t *testing.T, s string, w api.Word) {
	t.Helper()
	end := len(s)
	read(t, s, w)
	read(t, "  "+s, moved(list(w), 2)...)
	read(t, s+"   ", w)
	read(t, "("+s+")", signed("(", 0), moved(list(w), 1)[0], signed(")", end+1))
	read(t, s+" "+s, w, moved(list(w), end+1)[0])
	read(t, s+",a", w, signed(",", end), named("a", end+1))
	refused(t, s+" #", end+1, api.ErrSyntax)
}

// wrong holds that no word begins s, with and without other words around.
func wrong(t *testing.T, s string) {
	t.Helper()
	refused(t, s, 0, api.ErrSyntax)
	refused(t, s+" ", 0, api.ErrSyntax)
	refused(t, "   "+s, 3, api.ErrSyntax)
	refused(t, "a "+s, 2, api.ErrSyntax)
	refused(t, "'a' ("+s, 5, api.ErrSyntax)
	refused(t, "= <"+s+" 01 #", 3, api.ErrSyntax)
}

// TestEmpty holds P8.1 of commands without words.
func TestEmpty(t *testing.T) {
	for n := range 5 {
		read(t, blanks(n))
	}
	read(t, blanks(api.MaxLine))
}

// TestLine holds P8.1 at MaxLine bytes and past them, whatever the bytes are.
func TestLine(t *testing.T) {
	if api.MaxLine != 2048 {
		t.Fatal("MaxLine isn't 2048")
	}
	long := strings.Repeat("x", 2046)
	read(t, long+"xx", named(long+"xx", 0))
	read(t, "'"+long+"'", quoted(long, 0))
	read(t, blanks(2047)+"a", named("a", 2047))
	read(t, "a"+blanks(2047), named("a", 0))
	read(t, "'"+strings.Repeat("'", 2046)+"'", quoted(strings.Repeat("'", 1023), 0))
	refused(t, strings.Repeat("9", 2048), 0, api.ErrSyntax)
	refused(t, blanks(2047)+"#", 2047, api.ErrSyntax)
	for _, n := range []int{2049, 2050, 4096, 100000} {
		for _, s := range []string{" ", "a", "0", "'", ",", "#", "\x00", "é", "a ", "# "} {
			refused(t, strings.Repeat(s, n)[:n], 0, api.ErrLong)
		}
	}
	refused(t, "a"+blanks(2048), 0, api.ErrLong)
	refused(t, blanks(2048)+"a", 0, api.ErrLong)
	refused(t, "#"+blanks(2048), 0, api.ErrLong)
}

// TestManyWords holds P8.1 at MaxTokens words and past them.
func TestManyWords(t *testing.T) {
	if api.MaxTokens != 512 {
		t.Fatal("MaxTokens isn't 512")
	}
	for _, s := range []string{"a ", "1 ", "'' ", "<=", "<>", "*", ", ", " by "} {
		full := strings.Repeat(s, 512)
		l, at, err := Words(full)
		if len(l) != 513 || at != 0 || err != api.OK || l[512] != ended(len(full)) {
			t.Errorf("512 times %q: %d words, %d, %d", s, len(l), at, err)
		}
		if l, at, err = Words(full[:511*len(s)]); len(l) != 512 || at != 0 || err != api.OK {
			t.Errorf("511 times %q: %d words, %d, %d", s, len(l), at, err)
		}
	}
	full := strings.Repeat("a,", 256)
	for _, more := range []string{"b", "7", "''", "'x'", "<>", "(", "select", "b #", "b,c,d", "9223372036854775808"} {
		refused(t, full+more, 512, api.ErrLong)
		refused(t, full+blanks(9)+more, 521, api.ErrLong)
		refused(t, blanks(9)+full+more, 521, api.ErrLong)
	}
	if l, _, err := Words(full + blanks(1536)); err != api.OK || len(l) != 513 || l[512] != ended(2048) {
		t.Errorf("512 words and blanks: %d words, %d", len(l), err)
	}
}

// TestWhichFirst holds P8.1: of two faults the first one counts, and where the word past the last begins where none can, it's that.
func TestWhichFirst(t *testing.T) {
	full := strings.Repeat("a,", 256)
	refused(t, full+"b #", 512, api.ErrLong)
	refused(t, full+"b '", 512, api.ErrLong)
	refused(t, full[:511]+"#,b", 511, api.ErrSyntax)
	refused(t, full[:511]+"#"+full, 511, api.ErrSyntax)
	refused(t, "#"+full+full, 0, api.ErrSyntax)
	refused(t, full[:100]+"01 "+full+full, 100, api.ErrSyntax)
	for _, s := range []string{"#", "01", "1a", "'", "'a", "A", "\t", "9223372036854775809"} {
		refused(t, full+s, 512, api.ErrSyntax)
		refused(t, full+"  "+s, 514, api.ErrSyntax)
	}
	refused(t, "01 #", 0, api.ErrSyntax)
	refused(t, "a # 01", 2, api.ErrSyntax)
}

// TestNames holds P8.1 of names, and of the words of the language.
func TestNames(t *testing.T) {
	for c := 'a'; c <= 'z'; c++ {
		alone(t, string(c), named(string(c), 0))
		alone(t, "_"+string(c)+"9", named("_"+string(c)+"9", 0))
	}
	for _, s := range []string{"_", "__", "_1", "a1", "a_1", "t0", "a0123456789", "abcdefghijklmnopq", "selects", "select1", "_select",
		"abcdefghijklmnopqrstuvwxyz_0123456789", strings.Repeat("ab_9", 200)} {
		read(t, s, named(s, 0))
		read(t, " "+s+" ", named(s, 1))
		read(t, s+"("+s, named(s, 0), signed("(", len(s)), named(s, len(s)+1))
	}
	for _, s := range taken() {
		alone(t, s, named(s, 0))
	}
	read(t, "ab cd", named("ab", 0), named("cd", 3))
	read(t, "t.a", named("t", 0), signed(".", 1), named("a", 2))
	read(t, "a'b'c", named("a", 0), quoted("b", 1), named("c", 4))
	refused(t, "aB", 1, api.ErrSyntax)
	refused(t, "a\t", 1, api.ErrSyntax)
	refused(t, "ab\n", 2, api.ErrSyntax)
	refused(t, "\na", 0, api.ErrSyntax)
	refused(t, "caf\xc3\xa9", 3, api.ErrSyntax)
	refused(t, "a$", 1, api.ErrSyntax)
	wrong(t, "1a")
	wrong(t, "0_")
	wrong(t, "9select")
}

// TestNoWord holds P8.1: just the bytes that the chapter names, and blanks, may stand where a word begins.
func TestNoWord(t *testing.T) {
	begins := "abcdefghijklmnopqrstuvwxyz_0123456789(),.*+-=<>"
	for c := range 256 {
		s := string([]byte{byte(c)})
		switch {
		case s == " " || s == "'":
		case strings.Contains(begins, s):
			if l, at, err := Words(s); len(l) != 2 || at != 0 || err != api.OK {
				t.Errorf("Words(%q): %+v, %d, %d", s, l, at, err)
			}
		default:
			wrong(t, s)
			refused(t, "a"+s+"b", 1, api.ErrSyntax)
			refused(t, "12"+s, 2, api.ErrSyntax)
			refused(t, "'x'"+s, 3, api.ErrSyntax)
			refused(t, "<"+s, 1, api.ErrSyntax)
		}
	}
	wrong(t, "\xc3\xa9")
	wrong(t, "\u00a0")
	wrong(t, "\u2003")
	wrong(t, "\xef\xbb\xbf")
	wrong(t, "\uff11")
	wrong(t, ";")
	wrong(t, "!=")
}

// TestNumbers holds P8.1 of numbers: their ends, noughts ahead, and what is right behind.
func TestNumbers(t *testing.T) {
	for _, n := range []uint64{0, 1, 9, 10, 12, 100, 1 << 31, 1 << 32, 1<<53 + 1, 1<<63 - 2, 1<<63 - 1, 1 << 63} {
		alone(t, strconv.FormatUint(n, 10), numbered(n, 0))
	}
	for c := '0'; c <= '9'; c++ {
		alone(t, string(c), numbered(uint64(c-'0'), 0))
		wrong(t, "0"+string(c))
		alone(t, "5"+string(c), numbered(50+uint64(c-'0'), 0))
	}
	for _, s := range []string{"00", "01", "000", "007", "00000000000000000000000000000", "0123456789", "09223372036854775808",
		"9223372036854775809", "9223372036854775810", "9300000000000000000", "9999999999999999999", "10000000000000000000",
		"18446744073709551615", "18446744073709551616", "18446744073709551617", "27670116110564327424", "92233720368547758080",
		"100000000000000000000000000000000000000000", strings.Repeat("1", 500)} {
		wrong(t, s)
	}
	for c := 'a'; c <= 'z'; c++ {
		wrong(t, "0"+string(c))
		wrong(t, "12"+string(c)+" ")
	}
	for _, s := range []string{"0_", "1_", "1__", "1_000", "0x10", "0b1", "0o7", "1e5", "12a", "9223372036854775808a", "9223372036854775809_"} {
		wrong(t, s)
	}
	refused(t, "a 01", 2, api.ErrSyntax)
	refused(t, "1A", 1, api.ErrSyntax)
	read(t, "1.5", numbered(1, 0), signed(".", 1), numbered(5, 2))
	read(t, "-1", signed("-", 0), numbered(1, 1))
	read(t, "+0", signed("+", 0), numbered(0, 1))
	read(t, "- -9223372036854775808", signed("-", 0), signed("-", 2), numbered(1<<63, 3))
	read(t, "0 0", numbered(0, 0), numbered(0, 2))
	read(t, "1 a", numbered(1, 0), named("a", 2))
	read(t, "1'a'2", numbered(1, 0), quoted("a", 1), numbered(2, 4))
}

// TestTexts holds P8.1 of texts: what stands in them, and those without an end.
func TestTexts(t *testing.T) {
	for s, want := range map[string]string{
		"''": "", "' '": " ", "'   '": "   ", "'a'": "a", "'a b'": "a b", "' a '": " a ",
		"''''": "'", "'''a'": "'a", "'a''b'": "a'b", "'a'''": "a'", "''''''": "''", "'''a''b'''": "'a'b'", "'x''''y'": "x''y", "' '' '": " ' ",
		"'select a from t'": "select a from t", "'01'": "01", "'<= 1a #'": "<= 1a #", "'\"'": "\"", "'\\'": "\\",
		"'\x00'": "\x00", "'\t\n\r'": "\t\n\r", "'\x7f\x80\xff'": "\x7f\x80\xff", "'é'": "é", "'\xc3'": "\xc3", "'AbC'": "AbC",
	} {
		alone(t, s, quoted(want, 0))
	}
	for c := range 256 {
		s := string([]byte{byte(c)})
		if s != "'" {
			alone(t, "'"+s+"'", quoted(s, 0))
			alone(t, "'a"+s+"''"+s+"'", quoted("a"+s+"'"+s, 0))
		}
	}
	for _, n := range []int{63, 64, 65, 66, 1000} {
		long := strings.Repeat("y", n)
		alone(t, "'"+long+"'", quoted(long, 0))
	}
	for _, s := range []string{"'", "'a", "' ", "'''", "'''''", "'a''", "'''a", "'a''b", "'a''b''", "'\x00", "'\xff\n", "'é"} {
		refused(t, s, 0, api.ErrSyntax)
		refused(t, s+" ", 0, api.ErrSyntax)
		refused(t, "   "+s, 3, api.ErrSyntax)
		refused(t, "a "+s+"b # 01", 2, api.ErrSyntax)
		refused(t, "'a' ("+s, 5, api.ErrSyntax)
	}
	read(t, "''a''", quoted("", 0), named("a", 2), quoted("", 3))
	read(t, "'a' 'b'", quoted("a", 0), quoted("b", 4))
	read(t, "'' ''", quoted("", 0), quoted("", 3))
	read(t, "'a''b'c", quoted("a'b", 0), named("c", 6))
	refused(t, "'a'b'", 4, api.ErrSyntax)
	refused(t, "'' '", 3, api.ErrSyntax)
}

// TestSigns holds P8.1 of signs, alone and one behind another.
func TestSigns(t *testing.T) {
	signs := strings.Fields("<> <= >= ( ) , . * + - = < >")
	longer := map[string]bool{"<>": true, "<=": true, ">=": true}
	for _, a := range signs {
		alone(t, a, signed(a, 0))
		read(t, "x"+a+"1", named("x", 0), signed(a, 1), numbered(1, 1+len(a)))
		read(t, "'x'"+a+"''", quoted("x", 0), signed(a, 3), quoted("", 3+len(a)))
		for _, b := range signs {
			read(t, a+" "+b, signed(a, 0), signed(b, len(a)+1))
			if len(a) == 2 || !longer[a+b[:1]] {
				read(t, a+b, signed(a, 0), signed(b, len(a)))
			}
		}
	}
	read(t, "<=>", signed("<=", 0), signed(">", 2))
	read(t, "<>=", signed("<>", 0), signed("=", 2))
	read(t, "><", signed(">", 0), signed("<", 1))
	read(t, "=<", signed("=", 0), signed("<", 1))
	read(t, "=>", signed("=", 0), signed(">", 1))
	read(t, "<<=", signed("<", 0), signed("<=", 1))
	read(t, ">>=", signed(">", 0), signed(">=", 1))
	read(t, "<<>>", signed("<", 0), signed("<>", 1), signed(">", 3))
	read(t, "==", signed("=", 0), signed("=", 1))
	read(t, "< >", signed("<", 0), signed(">", 2))
	read(t, "< = > =", signed("<", 0), signed("=", 2), signed(">", 4), signed("=", 6))
	read(t, "--1", signed("-", 0), signed("-", 1), numbered(1, 2))
	read(t, "count(*)", named("count", 0), signed("(", 5), signed("*", 6), signed(")", 7))
}

// TestExamples holds the chapter's examples, and a command with all kinds of words.
func TestExamples(t *testing.T) {
	read(t, "a<=12 'x''y'", named("a", 0), signed("<=", 1), numbered(12, 3), quoted("x'y", 6))
	refused(t, "a 01", 2, api.ErrSyntax)
	read(t, "9223372036854775808", numbered(1<<63, 0))
	refused(t, "9223372036854775809", 0, api.ErrSyntax)
	read(t, " insert into t values(-7,'it''s' , true)  ",
		named("insert", 1), named("into", 8), named("t", 13), named("values", 15), signed("(", 21), signed("-", 22), numbered(7, 23),
		signed(",", 24), quoted("it's", 25), signed(",", 33), named("true", 35), signed(")", 39))
}

// taken are the words of the language, by the chapter.
func taken() []string {
	return strings.Fields("create drop table log on off view refresh as insert into values delete from where update set " +
		"fast complete force nested purge rewrite policy enforced tolerated show select distinct group by union all " +
		"and or not is null true false count sum min max int bool text primary key")
}

// TestTaken holds P8.2: Taken, of each word of the language and of what is like one.
func TestTaken(t *testing.T) {
	words := taken()
	for _, s := range words {
		if !Taken(s) {
			t.Errorf("Taken(%q) is false", s)
		}
		for _, other := range []string{s + " ", " " + s, s + "\x00", s + "_", "_" + s, s + "1", s + s, strings.ToUpper(s), strings.ToUpper(s[:1]) + s[1:], s[1:], s[:len(s)-1], "'" + s + "'"} {
			if Taken(other) != slices.Contains(words, other) {
				t.Errorf("Taken(%q) is %t", other, Taken(other))
			}
		}
	}
	for _, s := range []string{"", " ", "a", "t", "_", "<=", "0", "having", "order", "join", "begin", "index", "unique", "end", "desc", "in", "like", "avg",
		"number", "truth", "string", "any", "group by", "union all", "not null", "primary key", "\x00", "\xff", strings.Repeat("select", 1000)} {
		if Taken(s) {
			t.Errorf("Taken(%q) is true", s)
		}
	}
}

// TestName holds P8.2: Name, at the ends of how long one may be, of words of the language and of what is no name.
func TestName(t *testing.T) {
	if api.MaxName != 16 {
		t.Fatal("MaxName isn't 16")
	}
	for _, s := range []string{"a", "z", "_", "__", "t_1", "_1", "a9", "n0", "abcdefghijklmnop", "_123456789012345", "select_", "selects", "_select", "tables", "aselect", "k", "ke", "keyss"} {
		if !Name(s) {
			t.Errorf("Name(%q) is false", s)
		}
	}
	for _, s := range []string{"", " ", "abcdefghijklmnopq", "_1234567890123456", strings.Repeat("a", 32), strings.Repeat("a", 256), strings.Repeat("a", 272), strings.Repeat("x", 5000),
		"1", "1a", "0_", "9", "A", "aB", "Ab", "a b", " a", "a ", "a.b", "a-b", "'a'", "a'", "<", "*", "a\x00", "\x00", "a\n", "\ta", "é", "a\xff", "\x80"} {
		if Name(s) {
			t.Errorf("Name(%q) is true", s)
		}
	}
	for _, s := range taken() {
		if Name(s) || !Name(s+"_") {
			t.Errorf("Name(%q) is %t, of it and _ %t", s, Name(s), Name(s+"_"))
		}
	}
	for n := range 40 {
		if s := strings.Repeat("b", n); Name(s) != (n >= 1 && n <= 16) {
			t.Errorf("Name of %d bytes is %t", n, Name(s))
		}
	}
	for c := range 256 {
		s := string([]byte{byte(c)})
		letter := strings.Contains("abcdefghijklmnopqrstuvwxyz_", s)
		if Name(s) != letter || Name("q"+s) != (letter || strings.Contains("0123456789", s)) {
			t.Errorf("Name(%q) is %t, of it behind q %t", s, Name(s), Name("q"+s))
		}
	}
}

// TestNewMemory holds rule 3: an answer is new memory, which no other call's answer shares.
func TestNewMemory(t *testing.T) {
	const s = "select a, 'x''y' from t where a <= 12"
	want, _, _ := Words(s)
	first, _, _ := Words(s)
	clear(first[:cap(first)])
	if again, _, _ := Words(s); !reflect.DeepEqual(again, want) {
		t.Errorf("Words(%q) is %+v behind a change of an answer, was %+v", s, again, want)
	}
}

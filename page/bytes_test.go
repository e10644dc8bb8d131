package page

import (
	"math/rand"
	"strings"
	"testing"

	"belvedere/api"
)

// parts joins numbers, each in two bytes, the higher first.
func parts(l ...int) string {
	var b strings.Builder
	for _, n := range l {
		b.WriteByte(byte(n / 256))
		b.WriteByte(byte(n % 256))
	}
	return b.String()
}

// whole is a page's bytes: head, noughts, tail.
func whole(head, tail string) string {
	return head + strings.Repeat("\x00", 1024-len(head)-len(tail)) + tail
}

// laid tells p's bytes by the chapter's words, put together from both ends.
func laid(p api.Page) string {
	head, tail := parts(len(p.Slots)), ""
	for _, s := range p.Slots {
		tail = s.Data + tail
		if s.Used {
			head += parts(1024-len(tail), len(s.Data))
		} else {
			head += parts(0, 0)
		}
	}
	return whole(head, tail)
}

// told are pages with their bytes.
func told() []struct {
	p api.Page
	s string
} {
	return []struct {
		p api.Page
		s string
	}{
		{api.Page{}, whole("", "")},
		{of("ab", "c"), whole(parts(2, 1022, 2, 1021, 1), "cab")},
		{of("-", "c"), whole(parts(2, 0, 0, 1023, 1), "c")},
		{of("ab", "-", "c"), whole(parts(3, 1022, 2, 0, 0, 1021, 1), "cab")},
		{of(""), whole(parts(1, 1024, 0), "")},
		{of("", "a", "", "b"), whole(parts(4, 1024, 0, 1023, 1, 1023, 0, 1022, 1), "ba")},
		{of("-", ""), whole(parts(2, 0, 0, 1024, 0), "")},
		{of("\x00\x00"), whole(parts(1, 1022, 2), "\x00\x00")},
		{of("\xff\x00", "\xff"), whole(parts(2, 1022, 2, 1021, 1), "\xff\xff\x00")},
		{of(long(1016)), whole(parts(1, 8, 1016), long(1016))},
		{of(long(256), long(300)), whole(parts(2, 768, 256, 468, 300), long(556))},
		{page(append(times(254, open).Slots, used(""))...), whole(parts(255)+strings.Repeat("\x00", 1016)+parts(1024, 0), "")},
		{times(255, used("")), whole(parts(255)+strings.Repeat(parts(1024, 0), 255), "")},
	}
}

// TestBytesRead holds P5.3 of pages whose bytes are written out.
func TestBytesRead(t *testing.T) {
	for _, c := range told() {
		if got, err := Bytes(c.p); got != c.s || err != api.OK {
			t.Errorf("Bytes(%.80v) = %#v, %d, want %#v", c.p, got, err, c.s)
		}
		if got, err := Read(c.s); !same(got, c.p) || err != api.OK {
			t.Errorf("Read(%#v) = %.80v, %d, want %.80v", c.s, got, err, c.p)
		}
	}
	for _, c := range may() {
		if got, err := Bytes(c.p); got != laid(c.p) || err != api.OK {
			t.Errorf("Bytes(%.80v) = %#v, %d", c.p, got, err)
		}
	}
}

// TestAnyPage holds P5.3 and P5.4: the bytes of any page by the chapter's words, and the page read from them.
func TestAnyPage(t *testing.T) {
	r := rand.New(rand.NewSource(2))
	for range 3000 {
		p := random(r)
		s, err := Bytes(p)
		if s != laid(p) || err != api.OK {
			t.Fatalf("Bytes(%#v) = %#v, %d, want %#v", p, s, err, laid(p))
		}
		if got, err := Read(s); !same(got, p) || err != api.OK {
			t.Fatalf("Read(Bytes(%#v)) = %#v, %d", p, got, err)
		}
	}
}

// TestNoPage holds P5.3: bytes that are those of no page.
func TestNoPage(t *testing.T) {
	good := whole(parts(2, 1022, 2, 1021, 1), "cab")
	for name, s := range map[string]string{
		"nothing":                                          "",
		"one byte":                                         "\x00",
		"no slots, a byte short":                           whole("", "")[1:],
		"no slots, a byte long":                            whole("", "") + "\x00",
		"a byte short":                                     good[:1023],
		"a byte short in the midst":                        good[:500] + good[501:],
		"a byte long":                                      good + "\x00",
		"a byte long in the midst":                         good[:500] + "\x00" + good[500:],
		"two pages":                                        good + good,
		"no slots, but rows":                               whole("", "a"),
		"a byte ahead of the rows":                         whole(parts(2, 1022, 2, 1021, 1), "xcab"),
		"a byte behind the places":                         whole(parts(2, 1022, 2, 1021, 1)+"\x01", "cab"),
		"rows in the other order":                          whole(parts(2, 1021, 1, 1022, 2), "cab"),
		"a gap between rows":                               whole(parts(2, 1022, 2, 1020, 1), "c\x00ab"),
		"a gap at the end":                                 whole(parts(1, 1021, 2), "ab\x00"),
		"rows in one place":                                whole(parts(2, 1022, 2, 1022, 2), "ab"),
		"rows that overlap":                                whole(parts(2, 1022, 2, 1021, 2), "xab"),
		"the last slot isn't used":                         whole(parts(3, 1022, 2, 1021, 1, 0, 0), "cab"),
		"the one slot isn't used":                          whole(parts(1, 0, 0), ""),
		"bytes of a slot that isn't used":                  whole(parts(2, 0, 1, 1023, 1), "c"),
		"a page from its beginning":                        whole(parts(1, 0, 1024), ""),
		"a row in the slots' places":                       whole(parts(1, 6, 1018), long(1018)),
		"a row right behind the places":                    whole(parts(1, 7, 1017), long(1017)),
		"a row past the end":                               whole(parts(1, 1023, 2), "a"),
		"a row from the end on":                            whole(parts(1, 1024, 1), ""),
		"a row behind the end":                             whole(parts(1, 1025, 0), ""),
		"a row far behind the end":                         whole(parts(1, 65535, 65535), ""),
		"a row as long as can be":                          whole(parts(1, 1, 65535), ""),
		"an empty row not at the end":                      whole(parts(1, 1023, 0), ""),
		"an empty row not behind the last":                 whole(parts(2, 1023, 1, 1024, 0), "a"),
		"256 slots":                                        whole(parts(256)+strings.Repeat(parts(1024, 0), 255), ""),
		"256 slots, noughts":                               whole(parts(256), ""),
		"as many slots as can be":                          whole(parts(65535), ""),
		"255 slots, and a byte more than the size lets in": whole(parts(255)+strings.Repeat(parts(1024, 0), 254)+parts(1023, 1), "")[:1023] + "a",
		"one slot fewer":                                   whole(parts(1, 1022, 2, 1021, 1), "cab"),
		"the lower byte first":                             whole("\x01\x00\xff\x03\x01\x00", "c"),
		"text":                                             long(1024),
	} {
		if got, err := Read(s); len(got.Slots) > 0 || err != api.ErrForm {
			t.Errorf("%s: %.80v, %d", name, got, err)
		}
	}
}

// TestOneByteChanged holds P5.3: with one byte changed s is the bytes of no page, or of just the page that it tells.
func TestOneByteChanged(t *testing.T) {
	r := rand.New(rand.NewSource(3))
	for _, c := range told() {
		for i := range c.s {
			for _, by := range []byte{1, 2, 3, 4, 128, byte(1 + r.Intn(255))} {
				changed(t, c.s[:i]+string([]byte{c.s[i] ^ by})+c.s[i+1:], c.p, i)
			}
		}
	}
}

// changed holds what Read tells of s, which is p's bytes but for the one at i.
func changed(t *testing.T, s string, p api.Page, i int) {
	t.Helper()
	rows := 0
	for _, slot := range p.Slots {
		rows += len(slot.Data)
	}
	got, err := Read(s)
	if i >= 1024-rows && err != api.OK {
		t.Errorf("Read(%#v), where a row has another byte: %d", s, err)
	}
	if i < 1024-rows && i >= 2+4*len(p.Slots) && err != api.ErrForm {
		t.Errorf("Read(%#v), where nothing should be: %.80v, %d", s, got, err)
	}
	if err != api.OK && (err != api.ErrForm || len(got.Slots) > 0) {
		t.Errorf("Read(%#v) = %.80v, %d", s, got, err)
	}
	if err == api.OK && (same(got, p) || !Right(got) || laid(got) != s) {
		t.Errorf("Read(%#v) = %.80v", s, got)
	}
}

// TestAnyBytes holds P1 and P5.3: whatever bytes come, Read ends, and tells a page only if they are its bytes.
func TestAnyBytes(t *testing.T) {
	r := rand.New(rand.NewSource(4))
	for range 3000 {
		s := letters(r, []int{0, 1, 1023, 1024, 1024, 1024, 1025}[r.Intn(7)])
		if len(s) > 2 && r.Intn(2) == 0 {
			s = parts(r.Intn(258)) + s[2:]
		}
		got, err := Read(s)
		if err == api.OK && laid(got) != s || err != api.OK && (err != api.ErrForm || len(got.Slots) > 0) {
			t.Fatalf("Read(%#v) = %#v, %d", s, got, err)
		}
	}
}

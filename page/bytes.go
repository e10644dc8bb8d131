package page

import "belvedere/api"

// countSize is how many bytes the number of slots takes: two fewer than headSize.
const countSize = 2

// Bytes answers p's bytes.
func Bytes(p api.Page) (string, api.Errno) {
	if !Right(p) {
		return "", api.ErrArg
	}
	b := make([]byte, api.PageSize)
	write(b, 0, len(p.Slots))
	begin := api.PageSize
	for i, s := range p.Slots {
		if !s.Used {
			continue
		}
		begin -= len(s.Data)
		copy(b[begin:], s.Data)
		write(b, place(i), begin)
		write(b, place(i)+2, len(s.Data))
	}
	return string(b), api.OK
}

// Read answers the page whose bytes s is.
func Read(s string) (api.Page, api.Errno) {
	if len(s) != api.PageSize || place(read(s, 0)) > api.PageSize {
		return api.Page{}, api.ErrForm
	}
	slots := make([]api.Slot, read(s, 0))
	for i := range slots {
		begin, n := read(s, place(i)), read(s, place(i)+2)
		if begin+n > api.PageSize {
			return api.Page{}, api.ErrForm
		}
		if begin > 0 {
			slots[i] = api.Slot{Used: true, Data: s[begin : begin+n]}
		}
	}
	p := api.Page{Slots: slots}
	// A page has its bytes in one way alone: so whatever else is wrong with s shows when they are told again.
	if again, err := Bytes(p); err != api.OK || again != s {
		return api.Page{}, api.ErrForm
	}
	return p, api.OK
}

// place is where it stands how slot i begins.
func place(i int) int { return countSize + slotSize*i }

// write puts n at b's place at, in two bytes, the higher first.
func write(b []byte, at, n int) {
	b[at], b[at+1] = byte(n>>8), byte(n)
}

// read is the number that write put there.
func read(s string, at int) int { return int(s[at])<<8 | int(s[at+1]) }

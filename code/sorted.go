package code

import "belvedere/api"

// half is added to a number, round the ends, so that those below 0 stand ahead of the others as bytes.
const half = 1 << 63

// A text ends with two bytes stop. Behind a stop within it stands a more, so that it isn't taken for the end,
// and a text stands ahead of those that it begins, since stop is the least byte.
const (
	stop = 0
	more = 255
)

func putSorted(b []byte, v api.Value) []byte {
	b = append(b, byte(v.Kind+1))
	switch v.Kind {
	case api.TInt:
		b = putWord(b, uint64(v.N)+half)
	case api.TBool:
		b = append(b, byte(v.N))
	case api.TText:
		b = putStopped(b, v.S)
	}
	return b
}

func putStopped(b []byte, s string) []byte {
	for i := range len(s) {
		b = append(b, s[i])
		if s[i] == stop {
			b = append(b, more)
		}
	}
	return append(b, stop, stop)
}

func takeSorted(s string) (api.Value, string, bool) {
	kind, s := int(s[0])-1, s[1:]
	switch kind {
	case api.TAny:
		return api.Value{}, s, true
	case api.TInt:
		w, rest, ok := takeWord(s)
		return api.Value{Kind: kind, N: int(w - half)}, rest, ok
	case api.TBool:
		return takeTruth(s)
	case api.TText:
		return takeStopped(s)
	}
	return api.Value{}, "", false
}

// takeStopped takes a text that putStopped put.
func takeStopped(s string) (api.Value, string, bool) {
	var text []byte
	for i := 0; i+1 < len(s); i++ {
		if s[i] != stop {
			text = append(text, s[i])
			continue
		}
		switch s[i+1] {
		case stop:
			return api.Value{Kind: api.TText, S: string(text)}, s[i+2:], true
		case more:
			text = append(text, stop)
			i++
		default:
			return api.Value{}, "", false
		}
	}
	return api.Value{}, "", false
}

package code

import "belvedere/api"

func putPlain(b []byte, v api.Value) []byte {
	b = append(b, byte(v.Kind))
	switch v.Kind {
	case api.TInt:
		b = putWord(b, uint64(v.N))
	case api.TBool:
		b = append(b, byte(v.N))
	case api.TText:
		b = append(b, byte(len(v.S)))
		b = append(b, v.S...)
	}
	return b
}

func takePlain(s string) (api.Value, string, bool) {
	kind, s := int(s[0]), s[1:]
	switch kind {
	case api.TAny:
		return api.Value{}, s, true
	case api.TInt:
		w, rest, ok := takeWord(s)
		return api.Value{Kind: kind, N: int(w)}, rest, ok
	case api.TBool:
		return takeTruth(s)
	case api.TText:
		return takeCounted(s)
	}
	return api.Value{}, "", false
}

func takeTruth(s string) (api.Value, string, bool) {
	if s == "" {
		return api.Value{}, "", false
	}
	return api.Value{Kind: api.TBool, N: int(s[0])}, s[1:], true
}

// takeCounted takes a text that has its length ahead of it.
func takeCounted(s string) (api.Value, string, bool) {
	if s == "" {
		return api.Value{}, "", false
	}
	n, s := int(s[0]), s[1:]
	if len(s) < n {
		return api.Value{}, "", false
	}
	return api.Value{Kind: api.TText, S: s[:n]}, s[n:], true
}

const wordSize = 8

// putWord puts the highest byte first.
func putWord(b []byte, w uint64) []byte {
	for i := range wordSize {
		b = append(b, byte(w>>(8*(wordSize-1-i))))
	}
	return b
}

func takeWord(s string) (uint64, string, bool) {
	if len(s) < wordSize {
		return 0, "", false
	}
	var w uint64
	for i := range wordSize {
		w = w<<8 | uint64(s[i])
	}
	return w, s[wordSize:], true
}

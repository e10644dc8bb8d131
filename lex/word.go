package lex

import (
	"strconv"
	"strings"

	"belvedere/api"
)

const maxInt = 1 << 63 // with a - ahead it is a number of 64 bits yet

// word answers the word that s, which isn't empty, begins with, and how many bytes it takes there: 0, if s begins with none.
func word(s string) (api.Word, int) {
	switch c := s[0]; {
	case letter(c):
		return name(s)
	case digit(c):
		return number(s)
	case c == '\'':
		return text(s)
	case strings.IndexByte("(),.*+-=<>", c) >= 0:
		return sign(s)
	}
	return api.Word{}, 0
}

func letter(c byte) bool { return c == '_' || c >= 'a' && c <= 'z' }

func digit(c byte) bool { return c >= '0' && c <= '9' }

func name(s string) (api.Word, int) {
	size := nameSize(s)
	return api.Word{Kind: api.WName, S: s[:size]}, size
}

// nameSize answers how many bytes of s, from its beginning on, go on as a name does.
func nameSize(s string) int {
	size := 0
	for size < len(s) && (letter(s[size]) || size > 0 && digit(s[size])) {
		size++
	}
	return size
}

func number(s string) (api.Word, int) {
	size := 0
	for size < len(s) && digit(s[size]) {
		size++
	}
	if size > 1 && s[0] == '0' || size < len(s) && letter(s[size]) {
		return api.Word{}, 0
	}
	n, err := strconv.ParseUint(s[:size], 10, 64)
	if err != nil || n > maxInt {
		return api.Word{}, 0
	}
	return api.Word{Kind: api.WInt, N: n}, size
}

func text(s string) (api.Word, int) {
	var b []byte
	for i := 1; i < len(s); i++ {
		if s[i] == '\'' {
			if i+1 == len(s) || s[i+1] != '\'' {
				return api.Word{Kind: api.WText, S: string(b)}, i + 1
			}
			i++
		}
		b = append(b, s[i])
	}
	return api.Word{}, 0
}

func sign(s string) (api.Word, int) {
	size := 1
	if len(s) > 1 {
		switch s[:2] {
		case "<>", "<=", ">=":
			size = 2
		}
	}
	return api.Word{Kind: api.WSign, S: s[:size]}, size
}

// Package ascii is layer 1: see shared/doc/01-ascii.md.
package ascii

import "iter"

const (
	tab            = 9
	lineFeed       = 10
	carriageReturn = 13
	blank          = 32
)

// A capital letter is this far below its small one.
const toSmall = 'a' - 'A'

// Lower has no capital letters, Same tells whether two are the same without them.
func Lower(s string) string {
	out := make([]byte, 0, len(s))
	for c := range each(s) {
		if capital(c) {
			c += toSmall
		}
		out = append(out, c)
	}
	return string(out)
}

func Same(a, b string) bool { return Lower(a) == Lower(b) }

// Alpha and Digit tell what a byte is, Hex what it is worth.
func Alpha(c byte) bool { return capital(c) || between(c, 'a', 'z') }

func Digit(c byte) bool { return between(c, '0', '9') }

func Hex(c byte) int {
	switch {
	case Digit(c):
		return int(c - '0')
	case between(c, 'a', 'f'):
		return int(c-'a') + 10
	case between(c, 'A', 'F'):
		return int(c-'A') + 10
	}
	return -1
}

// Trim is a text without what it begins and ends with, Clean without ends of lines, too.
func Trim(s string) string { return cutEnds(s, upTo(blank)) }

func Clean(s string) string {
	return cutAll(Trim(s), oneOf(tab, lineFeed, carriageReturn))
}

func capital(c byte) bool { return between(c, 'A', 'Z') }

func between(c, low, high byte) bool { return low <= c && c <= high }

func upTo(high byte) func(byte) bool {
	return func(c byte) bool { return c <= high }
}

func oneOf(a, b, d byte) func(byte) bool {
	return func(c byte) bool { return c == a || c == b || c == d }
}

// The byte is handed on, not the rune: a range over the text itself would join bytes from 128 on.
func each(s string) iter.Seq[byte] {
	return func(yield func(byte) bool) {
		for i := range len(s) {
			if !yield(s[i]) {
				return
			}
		}
	}
}

// What goes may still stand within the text, so it is kept until it is known to be at the end.
func cutEnds(s string, goes func(byte) bool) string {
	out := make([]byte, 0, len(s))
	end := 0
	for c := range each(s) {
		if goes(c) && len(out) == 0 {
			continue
		}
		out = append(out, c)
		if !goes(c) {
			end = len(out)
		}
	}
	return string(out[:end])
}

func cutAll(s string, goes func(byte) bool) string {
	out := make([]byte, 0, len(s))
	for c := range each(s) {
		if !goes(c) {
			out = append(out, c)
		}
	}
	return string(out)
}

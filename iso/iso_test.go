package iso_test

import (
	"strings"
	"testing"
	"unicode/utf8"

	"postmark/iso"
)

// edges are the ends of what bytes are in UTF-8: alone, behind others, ahead of one, of two and of three, and never.
var edges = []byte{0, 'a', 127, 128, 143, 144, 159, 160, 191, 192, 193, 194, 195, 196, 223, 224, 225, 237, 239, 240, 241, 244, 245, 255}

// eachText calls f with the empty text, and with all texts of up to four of the edges.
func eachText(f func(string)) {
	f("")
	for _, a := range edges {
		f(string([]byte{a}))
		for _, b := range edges {
			f(string([]byte{a, b}))
			for _, c := range edges {
				f(string([]byte{a, b, c}))
				for _, d := range edges {
					f(string([]byte{a, b, c, d}))
				}
			}
		}
	}
}

// wantWide is P4.1 by its numbers.
func wantWide(s string) string {
	var out strings.Builder
	for i := range len(s) {
		if n := int(s[i]); n < 128 {
			out.WriteByte(byte(n))
		} else {
			out.WriteByte(byte(192 + n/64))
			out.WriteByte(byte(128 + n%64))
		}
	}
	return out.String()
}

// characters are those of the chapter's section "Words", by another way than a range.
func characters(s string) []rune {
	var list []rune
	for s != "" {
		r, size := utf8.DecodeRuneInString(s)
		list = append(list, r)
		s = s[size:]
	}
	return list
}

func wantNarrow(s string) (string, bool) {
	var out []byte
	for _, r := range characters(s) {
		if r > 255 {
			return "", false
		}
		out = append(out, byte(r))
	}
	return string(out), true
}

func wantPlain(s string) bool {
	return strings.Trim(s, string(below128())) == ""
}

func below128() []byte {
	var list []byte
	for c := range 128 {
		list = append(list, byte(c))
	}
	return list
}

func checkNarrow(t *testing.T, s, want string, wantIs bool) {
	t.Helper()
	if got, is := iso.Narrow(s); got != want || is != wantIs {
		t.Errorf("Narrow(%.80q) = %.80q, %v, want %.80q, %v", s, got, is, want, wantIs)
	}
}

func check(t *testing.T, s string) {
	t.Helper()
	if got, want := iso.Wide(s), wantWide(s); got != want {
		t.Errorf("Wide(%.80q) = %.80q, want %.80q", s, got, want)
	}
	want, wantIs := wantNarrow(s)
	checkNarrow(t, s, want, wantIs)
	if got, want := iso.Count(s), len(characters(s)); got != want {
		t.Errorf("Count(%.80q) = %d, want %d", s, got, want)
	}
	if got, want := iso.Plain(s), wantPlain(s); got != want {
		t.Errorf("Plain(%.80q) = %v, want %v", s, got, want)
	}
}

// checkFollows is P4.3.
func checkFollows(t *testing.T, s string) {
	t.Helper()
	w := iso.Wide(s)
	checkNarrow(t, w, s, true)
	if got := iso.Count(w); got != len(s) {
		t.Errorf("Wide(%.80q) has %d characters, want %d", s, got, len(s))
	}
	if iso.Plain(w) != iso.Plain(s) {
		t.Errorf("Plain(%.80q) = %v, made wide: %v", s, iso.Plain(s), iso.Plain(w))
	}
	if (w == s) != iso.Plain(s) {
		t.Errorf("Plain(%.80q) = %v, and it is made wide to %.80q", s, iso.Plain(s), w)
	}
	if iso.Plain(s) {
		checkNarrow(t, s, s, true)
	}
	if n, is := iso.Narrow(s); is && iso.Wide(n) != s {
		t.Errorf("%.80q is made narrow to %.80q, and wide again to %.80q", s, n, iso.Wide(n))
	}
}

// The chapter's section "Examples".
func TestExample(t *testing.T) {
	if got, want := iso.Wide(string([]byte{233})), string([]byte{195, 169}); got != want {
		t.Errorf("Wide = %q, want %q", got, want)
	}
}

// P4.1
func TestWide(t *testing.T) {
	for s, want := range map[string]string{
		"":             "",
		"abc":          "abc",
		"\x00":         "\x00",
		"\x7f":         "\x7f",
		"\x80":         "\xc2\x80",
		"\xbf":         "\xc2\xbf",
		"\xc0":         "\xc3\x80",
		"\xff":         "\xc3\xbf",
		"\x7f\x80":     "\x7f\xc2\x80",
		"\x80\x7f":     "\xc2\x80\x7f",
		"a\xe9b":       "a\xc3\xa9b",
		"\xe9a\xe9":    "\xc3\xa9a\xc3\xa9",
		"\xff\xfe":     "\xc3\xbf\xc3\xbe",
		"\xc3\xa9":     "\xc3\x83\xc2\xa9", // bytes, though they are a character
		"\xe2\x82\xac": "\xc3\xa2\xc2\x82\xc2\xac",
		"\xef\xbf\xbd": "\xc3\xaf\xc2\xbf\xc2\xbd",
		"\x00\xff\x00": "\x00\xc3\xbf\x00",
		"caf\xe9 \x7f": "caf\xc3\xa9 \x7f",
	} {
		if got := iso.Wide(s); got != want {
			t.Errorf("Wide(%q) = %q, want %q", s, got, want)
		}
	}
}

// P4.1: each byte, alone and between others, and all pairs.
func TestEachByte(t *testing.T) {
	for n := range 256 {
		c := string([]byte{byte(n)})
		want := c
		if n >= 128 {
			want = string([]byte{byte(192 + n/64), byte(128 + n%64)})
		}
		for _, x := range [][2]string{{c, want}, {c + "a", want + "a"}, {"a" + c, "a" + want}, {"a" + c + "a", "a" + want + "a"}, {c + c, want + want}, {c + "\xe9", want + "\xc3\xa9"}, {"\xe9" + c, "\xc3\xa9" + want}} {
			if got := iso.Wide(x[0]); got != x[1] {
				t.Errorf("Wide(%q) = %q, want %q", x[0], got, x[1])
			}
			checkNarrow(t, x[1], x[0], true)
		}
		for m := range 256 {
			s := string([]byte{byte(n), byte(m)})
			check(t, s)
			checkFollows(t, s)
		}
	}
}

// P4.2: the bytes of the characters, in order.
func TestNarrow(t *testing.T) {
	for s, want := range map[string]string{
		"":                         "",
		"abc":                      "abc",
		"\x00":                     "\x00",
		"\x7f":                     "\x7f",
		"a\x00\x7f":                "a\x00\x7f",
		"\xc2\x80":                 "\x80",
		"\xc2\xbf":                 "\xbf",
		"\xc3\x80":                 "\xc0",
		"\xc3\xa9":                 "\xe9",
		"\xc3\xbf":                 "\xff",
		"\xc3\xbf\xc2\x80":         "\xff\x80",
		"a\xc3\xa9b":               "a\xe9b",
		"\xc3\xa9a\xc3\xa9":        "\xe9a\xe9",
		"\xc3\x83\xc2\xa9":         "\xc3\xa9", // once alone
		"\xc3\xa2\xc2\x82\xc2\xac": "\xe2\x82\xac",
	} {
		checkNarrow(t, s, want, true)
	}
}

// noByte are characters above 255, and bytes that are no part of a character, which are 65533.
var noByte = []string{
	"\xc4\x80",         // 256
	"\xc4\x81",         // 257: 1, cut off at 8 bits
	"\xdf\xbf",         // 2047
	"\xe0\xa0\x80",     // 2048
	"\xe2\x82\xac",     // 8364
	"\xef\xbf\xbd",     // 65533 itself
	"\xef\xbf\xbf",     // 65535
	"\xf0\x90\x80\x80", // 65536: 0, cut off at 8 or at 16 bits
	"\xf0\x90\x81\x81", // 65601
	"\xf4\x8f\xbf\xbf", // the greatest one
	"\x80", "\xbf", "\xc0", "\xc1", "\xc3", "\xdf", "\xe2", "\xef", "\xf0", "\xf4", "\xf5", "\xff",
	"\xe2\x82", "\xf0\x9f\x98", "\xff\xfe",
	"\xc0\x80", "\xc1\xbf", "\xe0\x80\x80", "\xe0\x9f\xbf", "\xf0\x80\x80\x80", "\xf0\x8f\xbf\xbf", // longer than they need be
	"\xed\xa0\x80", "\xed\xbf\xbf", // halves of UTF-16
	"\xf4\x90\x80\x80", // above the greatest one
}

// P4.2: empty and false, wherever the character stands, and whatever was ahead of it.
func TestNarrowOfWhatIsNoByte(t *testing.T) {
	for _, s := range noByte {
		for _, ahead := range []string{"", "a", "\xc3\xa9", "\x00", "ab\xc2\x80"} {
			for _, behind := range []string{"", "a", "\xc3\xa9", "\x00", "ab\xc2\x80"} {
				checkNarrow(t, ahead+s+behind, "", false)
			}
		}
		checkNarrow(t, s+s, "", false)
	}
	for n := 128; n < 256; n++ {
		c := string([]byte{byte(n)})
		for _, s := range []string{c, c + "a", "a" + c, "a" + c + "a", "\xc3\xa9" + c, c + "\xc3\xa9"} {
			checkNarrow(t, s, "", false)
		}
	}
}

// P4.2: every character that there is.
func TestEachCharacter(t *testing.T) {
	for r := range rune(utf8.MaxRune + 1) {
		s := string(r)
		if r <= 255 {
			checkNarrow(t, s, string([]byte{byte(r)}), true)
		} else {
			checkNarrow(t, s, "", false)
		}
		if iso.Count(s) != 1 || iso.Plain(s) != (r < 128) {
			t.Errorf("%d: Count %d, Plain %v", r, iso.Count(s), iso.Plain(s))
		}
	}
}

// P4.2
func TestCount(t *testing.T) {
	for s, want := range map[string]int{
		"":                           0,
		"a":                          1,
		"ab":                         2,
		"\x00\x00":                   2,
		"\r\n":                       2,
		"\xc3\xa9":                   1,
		"e\xcc\x81":                  2, // an accent is a character of its own
		"\xe2\x82\xac":               1,
		"\xe2\x82\xac!":              2,
		"\xf0\x9f\x98\x80":           1,
		"a\xc3\xa9\xe2\x82\xac":      3,
		"\xf0\x9f\x98\x80\xc3\xa9a":  3,
		"\xef\xbf\xbd":               1,
		"\xef\xbb\xbfa":              2,
		"\x80":                       1,
		"\xff\xfe":                   2,
		"\xc3":                       1,
		"\xc3a":                      2,
		"a\xc3":                      2,
		"a\xc3a":                     3,
		"\xc3\xc3\xa9":               2,
		"\xc3\xa9\xa9":               2,
		"\xe2\x82":                   2,
		"\xe2\x82a":                  3,
		"\xe2\x82\xe2\x82\xac":       3,
		"\xf0\x9f\x98":               3,
		"\xf0\x9f\x98\xf0\x9f\x98":   6,
		"\xc0\x80":                   2,
		"\xe0\x80\x80":               3,
		"\xed\x9f\xbf":               1,
		"\xed\xa0\x80":               3,
		"\xed\xbf\xbf":               3,
		"\xee\x80\x80":               1,
		"\xf0\x80\x80\x80":           4,
		"\xf4\x8f\xbf\xbf":           1,
		"\xf4\x90\x80\x80":           4,
		"\xf8\x88\x80\x80\x80":       5,
		"\x80a\xff\xc3\xa9\xff\x80b": 7,
	} {
		if got := iso.Count(s); got != want {
			t.Errorf("Count(%q) = %d, want %d", s, got, want)
		}
	}
}

// P4.2
func TestPlain(t *testing.T) {
	for s, want := range map[string]bool{
		"":             true,
		"a":            true,
		"\x00":         true,
		"\x7f":         true,
		"\x80":         false,
		"\xff":         false,
		"a\x7f":        true,
		"a\x7fb":       true,
		"\x80a":        false,
		"a\x80":        false,
		"a\x80b":       false,
		"\x7f\x80":     false,
		"a\xc3\xa9":    false,
		"\xc3\xa9a":    false,
		"a\xc3\xa9a":   false,
		"\xe2\x82\xac": false,
		"\xef\xbf\xbd": false,
		"a\r\n\tb ~":   true,
	} {
		if got := iso.Plain(s); got != want {
			t.Errorf("Plain(%q) = %v, want %v", s, got, want)
		}
	}
	for n := range 256 {
		c := string([]byte{byte(n)})
		for _, s := range []string{c, c + "a", "a" + c, "a" + c + "a"} {
			if got, want := iso.Plain(s), n < 128; got != want {
				t.Errorf("Plain(%q) = %v, want %v", s, got, want)
			}
		}
	}
}

// P4.1 to P4.3: what goes on and what breaks off, at every place of a text.
func TestTexts(t *testing.T) {
	eachText(func(s string) {
		check(t, s)
		checkFollows(t, s)
	})
}

// P4.3: all bytes in one text, in both orders, and what is made wide twice.
func TestWhatFollowsOfAllBytes(t *testing.T) {
	up, down := make([]byte, 256), make([]byte, 256)
	for c := range 256 {
		up[c], down[255-c] = byte(c), byte(c)
	}
	for _, s := range []string{string(up), string(down), string(up[:128]), string(up[128:]), string(up) + string(down)} {
		check(t, s)
		checkFollows(t, s)
		checkFollows(t, iso.Wide(s))
	}
	plain := string(below128())
	if iso.Wide(plain) != plain || !iso.Plain(plain) || iso.Count(plain) != 128 {
		t.Error("what is plain does not stay")
	}
	checkNarrow(t, plain, plain, true)
}

// P1: long texts are worked off.
func TestLongTexts(t *testing.T) {
	const n = 1 << 20
	letters, high := strings.Repeat("a", n), strings.Repeat("\xe9", n)
	wide := strings.Repeat("\xc3\xa9", n)
	if iso.Wide(letters) != letters || iso.Wide(high) != wide {
		t.Error("Wide of a long text is wrong")
	}
	checkNarrow(t, letters, letters, true)
	checkNarrow(t, wide, high, true)
	checkNarrow(t, wide+"\xc4\x80", "", false)
	checkNarrow(t, high, "", false)
	if iso.Count(letters) != n || iso.Count(high) != n || iso.Count(wide) != n || iso.Count("") != 0 {
		t.Error("Count of a long text is wrong")
	}
	if !iso.Plain(letters) || iso.Plain(letters+"\x80") || iso.Plain("\x80"+letters) {
		t.Error("Plain of a long text is wrong")
	}
}

// R5: what was asked before changes nothing.
func TestAskedAgain(t *testing.T) {
	for range 3 {
		checkNarrow(t, "\xc3\xa9", "\xe9", true)
		checkNarrow(t, "a\xc4\x80", "", false)
		if iso.Wide("\xe9a") != "\xc3\xa9a" || iso.Count("\xc3\xa9\xff") != 2 || !iso.Plain("\x7f") || iso.Plain("\x80") {
			t.Fatal("an answer changed")
		}
	}
}

// FuzzCharacters holds the promises against any text: its seeds run with the other tests.
func FuzzCharacters(f *testing.F) {
	f.Add("")
	f.Add("caf\xe9 caf\xc3\xa9 \xe2\x82\xac \xf0\x9f\x98\x80 \x7f\x00")
	for _, s := range noByte {
		f.Add(s)
		f.Add("a" + s + "\xc3\xa9")
	}
	f.Fuzz(func(t *testing.T, s string) {
		check(t, s)
		checkFollows(t, s)
	})
}

package ascii_test

import (
	"strings"
	"testing"

	"postmark/ascii"
)

// edges are the bytes at both ends of each range that the chapter names, and some from 128 on.
var edges = []byte{0, 8, 9, 10, 11, 12, 13, 14, 31, 32, 33, 47, 48, 57, 58, 64, 65, 70, 71, 90, 91, 96, 97, 102, 103, 122, 123, 127, 128, 160, 193, 225, 255}

// eachText calls f with the empty text, and with all texts of up to three of the edges.
func eachText(f func(string)) {
	f("")
	for _, a := range edges {
		f(string([]byte{a}))
		for _, b := range edges {
			f(string([]byte{a, b}))
			for _, c := range edges {
				f(string([]byte{a, b, c}))
			}
		}
	}
}

// P1.1
func TestAlpha(t *testing.T) {
	const letters = "ABCDEFGHIJKLMNOPQRSTUVWXYZabcdefghijklmnopqrstuvwxyz"
	for c := range 256 {
		want := strings.IndexByte(letters, byte(c)) >= 0
		if got := ascii.Alpha(byte(c)); got != want {
			t.Errorf("Alpha(%d) = %v, want %v", c, got, want)
		}
	}
}

// P1.1
func TestDigit(t *testing.T) {
	for c := range 256 {
		want := strings.IndexByte("0123456789", byte(c)) >= 0
		if got := ascii.Digit(byte(c)); got != want {
			t.Errorf("Digit(%d) = %v, want %v", c, got, want)
		}
	}
}

// P1.1
func TestHex(t *testing.T) {
	for c := range 256 {
		want := strings.IndexByte("0123456789abcdef", byte(c))
		if want < 0 {
			want = strings.IndexByte("0123456789ABCDEF", byte(c))
		}
		if got := ascii.Hex(byte(c)); got != want {
			t.Errorf("Hex(%d) = %d, want %d", c, got, want)
		}
	}
}

// P1.1: the edges by their numbers, as the chapter gives them.
func TestEdgesOfRanges(t *testing.T) {
	for _, x := range []struct {
		c            byte
		alpha, digit bool
		hex          int
	}{
		{0, false, false, -1}, {32, false, false, -1}, {33, false, false, -1},
		{47, false, false, -1}, {48, false, true, 0}, {57, false, true, 9}, {58, false, false, -1},
		{64, false, false, -1}, {65, true, false, 10}, {70, true, false, 15}, {71, true, false, -1},
		{90, true, false, -1}, {91, false, false, -1},
		{96, false, false, -1}, {97, true, false, 10}, {102, true, false, 15}, {103, true, false, -1},
		{122, true, false, -1}, {123, false, false, -1},
		{128, false, false, -1}, {176, false, false, -1}, {193, false, false, -1}, {225, false, false, -1}, {255, false, false, -1},
	} {
		if ascii.Alpha(x.c) != x.alpha || ascii.Digit(x.c) != x.digit || ascii.Hex(x.c) != x.hex {
			t.Errorf("%d: %v %v %d", x.c, ascii.Alpha(x.c), ascii.Digit(x.c), ascii.Hex(x.c))
		}
	}
}

// P1.2, and the second half of P1.4
func TestLowerChangesCapitalLettersAlone(t *testing.T) {
	for c := range 256 {
		want := byte(c)
		if c >= 65 && c <= 90 {
			want += 32
		}
		got := ascii.Lower(string([]byte{byte(c)}))
		if got != string([]byte{want}) {
			t.Errorf("Lower of %d = %q, want %q", c, got, want)
		}
		if got[0] != byte(c) && !ascii.Alpha(byte(c)) {
			t.Errorf("Lower changes %d, that is no letter", c)
		}
	}
}

// P1.2
func TestLower(t *testing.T) {
	for s, want := range map[string]string{
		"":                           "",
		"A-b":                        "a-b",
		"AZ@[`{az":                   "az@[`{az",
		" \tX\r\n":                   " \tx\r\n",
		"\x00A\x7f":                  "\x00a\x7f",
		"\xc3\x89\xc1\xda":           "\xc3\x89\xc1\xda", // no letters of other alphabets
		"\xe2\x84\xaa":               "\xe2\x84\xaa",     // the sign for kelvin stays
		"\xff\xfeQ\x80":              "\xff\xfeq\x80",    // no UTF-8
		"ABCDEFGHIJKLMNOPQRSTUVWXYZ": "abcdefghijklmnopqrstuvwxyz",
	} {
		if got := ascii.Lower(s); got != want {
			t.Errorf("Lower(%q) = %q, want %q", s, got, want)
		}
	}
}

// P1.2: byte by byte, at every place of a text.
func TestLowerOfTexts(t *testing.T) {
	eachText(func(s string) {
		want := []byte(s)
		for i, c := range want {
			if c >= 65 && c <= 90 {
				want[i] = c + 32
			}
		}
		if got := ascii.Lower(s); got != string(want) {
			t.Errorf("Lower(%q) = %q, want %q", s, got, want)
		}
	})
}

// P1.2
func TestSame(t *testing.T) {
	for _, x := range []struct {
		a, b string
		want bool
	}{
		{"", "", true}, {"", "a", false}, {"", " ", false}, {"", "\x00", false},
		{"a", "a", true}, {"a", "A", true}, {"z", "Z", true}, {"Content-TYPE", "content-type", true},
		{"a", "b", false}, {"a", "aa", false}, {"ab", "ba", false}, {"a", " a", false}, {"a", "a\n", false},
		{"@", "`", false}, {"[", "{", false}, {"0", "P", false}, {"\x00", " ", false},
		{"\xc3\x89", "\xc3\xa9", false}, {"\xc1", "\xe1", false},
		{"k", "\xe2\x84\xaa", false}, {"s", "\xc5\xbf", false}, // alike by Unicode alone
		{"\xff", "\xfe", false}, {"\xff", "\xff", true}, {"\xff", "\xef\xbf\xbd", false},
	} {
		if ascii.Same(x.a, x.b) != x.want || ascii.Same(x.b, x.a) != x.want {
			t.Errorf("Same of %q and %q is not %v both ways", x.a, x.b, x.want)
		}
	}
}

// P1.2: every two bytes.
func TestSameIsByLower(t *testing.T) {
	small := func(c int) int {
		if c >= 65 && c <= 90 {
			return c + 32
		}
		return c
	}
	for a := range 256 {
		for b := range 256 {
			want := small(a) == small(b)
			if got := ascii.Same(string([]byte{byte(a)}), string([]byte{byte(b)})); got != want {
				t.Errorf("Same of %d and %d = %v, want %v", a, b, got, want)
			}
		}
	}
}

// P1.3
func TestTrimAndClean(t *testing.T) {
	for _, x := range []struct{ s, trim, clean string }{
		{"", "", ""},
		{" ", "", ""}, {"\x00", "", ""}, {" \t\r\n\x00\x1f ", "", ""},
		{"a", "a", "a"}, {" a", "a", "a"}, {"a ", "a", "a"}, {" \x1fa\x00\n", "a", "a"},
		{" a\tb\n", "a\tb", "ab"},
		{"a \n b", "a \n b", "a  b"},
		{"a\t\t\tb\r\n\r\nc", "a\t\t\tb\r\n\r\nc", "abc"},
		{"\t!\t", "!", "!"}, {"!\x00\x08\x0b\x0c\x0e\x1f !", "!\x00\x08\x0b\x0c\x0e\x1f !", "!\x00\x08\x0b\x0c\x0e\x1f !"},
		{"\x7f a \x7f", "\x7f a \x7f", "\x7f a \x7f"},
		{"\x80\t\xff", "\x80\t\xff", "\x80\xff"},
		{"\xc2\xa0a\xc2\x85", "\xc2\xa0a\xc2\x85", "\xc2\xa0a\xc2\x85"}, // blanks by Unicode alone
		{"  a  b  ", "a  b", "a  b"},
		{"\n\x80\n", "\x80", "\x80"},
	} {
		if got := ascii.Trim(x.s); got != x.trim {
			t.Errorf("Trim(%q) = %q, want %q", x.s, got, x.trim)
		}
		if got := ascii.Clean(x.s); got != x.clean {
			t.Errorf("Clean(%q) = %q, want %q", x.s, got, x.clean)
		}
	}
}

// P1.3: each byte, at both ends, and within a text.
func TestTrimAndCleanOfEachByte(t *testing.T) {
	for n := range 256 {
		c := string([]byte{byte(n)})
		ends := c + "x" + c
		trimmed, cleaned := ends, ends
		if n <= 32 {
			trimmed, cleaned = "x", "x"
		}
		if got := ascii.Trim(ends); got != trimmed {
			t.Errorf("Trim(%q) = %q, want %q", ends, got, trimmed)
		}
		if got := ascii.Clean(ends); got != cleaned {
			t.Errorf("Clean(%q) = %q, want %q", ends, got, cleaned)
		}
		within := "x" + c + "x"
		cleaned = within
		if n == 9 || n == 10 || n == 13 {
			cleaned = "xx"
		}
		if got := ascii.Trim(within); got != within {
			t.Errorf("Trim(%q) = %q, want it as it was", within, got)
		}
		if got := ascii.Clean(within); got != cleaned {
			t.Errorf("Clean(%q) = %q, want %q", within, got, cleaned)
		}
	}
}

// P1.3: the texts of the edges, by another way of trimming.
func TestTrimAndCleanOfTexts(t *testing.T) {
	eachText(func(s string) {
		trimmed := s
		for trimmed != "" && trimmed[0] <= 32 {
			trimmed = trimmed[1:]
		}
		for trimmed != "" && trimmed[len(trimmed)-1] <= 32 {
			trimmed = trimmed[:len(trimmed)-1]
		}
		if got := ascii.Trim(s); got != trimmed {
			t.Errorf("Trim(%q) = %q, want %q", s, got, trimmed)
		}
		cleaned := strings.NewReplacer("\t", "", "\n", "", "\r", "").Replace(trimmed)
		if got := ascii.Clean(s); got != cleaned {
			t.Errorf("Clean(%q) = %q, want %q", s, got, cleaned)
		}
	})
}

// P1.4
func TestTwiceIsAsOnce(t *testing.T) {
	for name, f := range map[string]func(string) string{"Lower": ascii.Lower, "Trim": ascii.Trim, "Clean": ascii.Clean} {
		eachText(func(s string) {
			once := f(s)
			if twice := f(once); twice != once {
				t.Errorf("%s of %q: once %q, twice %q", name, s, once, twice)
			}
		})
	}
}

// R5: what was asked before changes nothing.
func TestAskedAgain(t *testing.T) {
	const s = " A\tb\xff\n"
	for range 3 {
		if ascii.Lower(s) != " a\tb\xff\n" || ascii.Trim(s) != "A\tb\xff" || ascii.Clean(s) != "Ab\xff" || !ascii.Same(s, " a\tB\xff\n") {
			t.Fatal("an answer changed")
		}
	}
}

// P1: long texts, of each kind of byte alone and mixed, are worked off.
func TestLongTexts(t *testing.T) {
	const n = 1 << 20
	blanks, breaks, capitals := strings.Repeat(" ", n), strings.Repeat("\r\n", n/2), strings.Repeat("Q", n)
	if ascii.Trim(blanks) != "" || ascii.Clean(breaks) != "" || ascii.Trim(blanks+"x"+blanks) != "x" {
		t.Error("blanks or ends of lines are left")
	}
	if ascii.Clean("a"+breaks+"b") != "ab" || ascii.Trim("a"+blanks+"b") != "a"+blanks+"b" {
		t.Error("what stands within a text is wrong")
	}
	if ascii.Lower(capitals) != strings.Repeat("q", n) || !ascii.Same(capitals, strings.Repeat("q", n)) || ascii.Same(capitals, capitals+"q") {
		t.Error("capital letters are left")
	}
}

// FuzzTexts holds what follows from the promises against any text: its seeds run with the other tests.
func FuzzTexts(f *testing.F) {
	for _, s := range []string{"", " a\tb\n", "\x00\xff\x80", "A-b", "\r\n\r\n", "http://A.org/\n"} {
		f.Add(s)
	}
	f.Fuzz(func(t *testing.T, s string) {
		low, trimmed, cleaned := ascii.Lower(s), ascii.Trim(s), ascii.Clean(s)
		if len(low) != len(s) || !ascii.Same(s, low) || ascii.Lower(low) != low {
			t.Errorf("Lower(%q) = %q", s, low)
		}
		if !strings.Contains(s, trimmed) || ascii.Trim(trimmed) != trimmed {
			t.Errorf("Trim(%q) = %q", s, trimmed)
		}
		if strings.ContainsAny(cleaned, "\t\n\r") || ascii.Clean(cleaned) != cleaned || ascii.Clean(trimmed) != cleaned {
			t.Errorf("Clean(%q) = %q", s, cleaned)
		}
	})
}

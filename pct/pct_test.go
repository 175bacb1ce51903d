package pct_test

import (
	"fmt"
	"math"
	"regexp"
	"strconv"
	"strings"
	"testing"

	"postmark/pct"
)

const sets = 5

// none are numbers of which there is no set.
var none = []int{-1, -2, -5, 5, 6, 255, 256, 1 << 32, 1<<32 + 1, math.MinInt, math.MinInt + 1, math.MaxInt}

// edges are the percent sign, digits to the base of 16 and the bytes beside them, some of each set, and the ends of set 0.
var edges = []byte{0, 31, ' ', '"', '#', '%', '/', '0', '2', '5', '9', ':', '@', 'A', 'F', 'G', '`', 'a', 'f', 'g', '~', 127, 128, 195, 255}

// eachText calls f with the empty text, and with all texts of up to three of the edges, alone and behind a percent sign.
func eachText(f func(string)) {
	both := func(list ...byte) {
		f(string(list))
		f("%" + string(list))
	}
	both()
	for _, a := range edges {
		both(a)
		for _, b := range edges {
			both(a, b)
			for _, c := range edges {
				both(a, b, c)
			}
		}
	}
}

// eachSet calls f with the numbers of all sets, and with some of which there is none.
func eachSet(f func(int)) {
	for set := range sets {
		f(set)
	}
	for _, set := range none {
		f(set)
	}
}

// wantIn is the chapter's section "Words", by its numbers, each set whole.
func wantIn(set int, c byte) bool {
	list := map[int][]byte{
		0: {},
		1: {32, 34, 60, 62, 96},
		2: {32, 34, 35, 39, 60, 62},
		3: {32, 34, 35, 39, 60, 62, 63, 94, 96, 123, 125},
		4: {32, 34, 35, 39, 60, 62, 63, 94, 96, 123, 125, 47, 58, 59, 61, 64, 91, 92, 93, 124},
	}
	more, is := list[set]
	return is && (c < 32 || c > 126 || strings.IndexByte(string(more), c) >= 0)
}

// wantEncode and wantDecode are P3.1 and P3.2 by other ways of writing and finding.
func wantEncode(s string, set int) string {
	var out strings.Builder
	for i := range len(s) {
		if wantIn(set, s[i]) {
			fmt.Fprintf(&out, "%%%02X", s[i])
		} else {
			out.WriteByte(s[i])
		}
	}
	return out.String()
}

var encoded = regexp.MustCompile("%[0-9A-Fa-f][0-9A-Fa-f]")

func wantDecode(s string) string {
	return encoded.ReplaceAllStringFunc(s, func(told string) string {
		n, _ := strconv.ParseUint(told[1:], 16, 8)
		return string([]byte{byte(n)})
	})
}

func wantReady(s string, set int) bool {
	for i := range len(s) {
		if wantIn(set, s[i]) {
			return false
		}
	}
	return true
}

func check(t *testing.T, s string, set int) {
	t.Helper()
	if got, want := pct.Encode(s, set), wantEncode(s, set); got != want {
		t.Errorf("Encode(%q, %d) = %q, want %q", s, set, got, want)
	}
	if got, want := pct.Ready(s, set), wantReady(s, set); got != want {
		t.Errorf("Ready(%q, %d) = %v, want %v", s, set, got, want)
	}
}

func checkDecode(t *testing.T, s string) {
	t.Helper()
	if got, want := pct.Decode(s), wantDecode(s); got != want {
		t.Errorf("Decode(%q) = %q, want %q", s, got, want)
	}
}

// checkFollows is P3.3. That a text has no percent sign to itself need not be asked: behind one that is left alone no byte becomes a digit.
func checkFollows(t *testing.T, s string, set int) {
	t.Helper()
	e := pct.Encode(s, set)
	if !pct.Ready(e, set) {
		t.Errorf("Encode(%q, %d) = %q is not ready", s, set, e)
	}
	if again := pct.Encode(e, set); again != e {
		t.Errorf("%q is ready for %d, but becomes %q", e, set, again)
	}
	if pct.Ready(s, set) && e != s {
		t.Errorf("%q is ready for %d, but becomes %q", s, set, e)
	}
	if got, want := pct.Decode(e), pct.Decode(s); got != want {
		t.Errorf("%q, encoded for %d, is decoded to %q, itself to %q", s, set, got, want)
	}
	if !strings.Contains(s, "%") && pct.Decode(e) != s {
		t.Errorf("%q, encoded for %d, is decoded to %q", s, set, pct.Decode(e))
	}
}

// The chapter's section "Examples".
func TestExample(t *testing.T) {
	const s = " é"
	e := pct.Encode(s, 3)
	if e != "%20%C3%A9" || pct.Decode(e) != s {
		t.Errorf("Encode(%q, 3) = %q, decoded: %q", s, e, pct.Decode(e))
	}
}

// P3.1: each byte and each set, and sets that are none.
func TestIn(t *testing.T) {
	eachSet(func(set int) {
		for c := range 256 {
			if got, want := pct.In(set, byte(c)), wantIn(set, byte(c)); got != want {
				t.Errorf("In(%d, %d) = %v, want %v", set, c, got, want)
			}
		}
	})
}

// P3.1: how many bytes each set has, and which of the sets are within others.
func TestSetsWithinOthers(t *testing.T) {
	for set, want := range []int{161, 166, 167, 172, 181} {
		count := 0
		for c := range 256 {
			if pct.In(set, byte(c)) {
				count++
			}
		}
		if count != want {
			t.Errorf("set %d has %d bytes, want %d", set, count, want)
		}
	}
	for _, x := range [][2]int{{0, 1}, {0, 2}, {2, 3}, {1, 3}, {3, 4}} {
		for c := range 256 {
			if pct.In(x[0], byte(c)) && !pct.In(x[1], byte(c)) {
				t.Errorf("%d is in set %d, but not in %d", c, x[0], x[1])
			}
		}
	}
	if pct.In(2, '`') || !pct.In(1, '`') || pct.In(1, '#') || !pct.In(2, '#') || pct.In(1, '\'') || !pct.In(2, '\'') {
		t.Error("the sets of fragments and of queries are not told apart")
	}
}

// P3.1: the percent sign, letters and digits are in no set.
func TestNeverIn(t *testing.T) {
	const never = "%0123456789ABCDEFGHIJKLMNOPQRSTUVWXYZabcdefghijklmnopqrstuvwxyz!$&()*+,-._~"
	eachSet(func(set int) {
		for i := range len(never) {
			if pct.In(set, never[i]) {
				t.Errorf("%q is in set %d", never[i], set)
			}
		}
		if got := pct.Encode(never, set); got != never || !pct.Ready(never, set) {
			t.Errorf("Encode(%q, %d) = %q", never, set, got)
		}
	})
}

// P3.1
func TestEncode(t *testing.T) {
	for _, x := range []struct {
		s    string
		set  int
		want string
	}{
		{"", 0, ""}, {"", 4, ""}, {"", -1, ""}, {"", 5, ""},
		{"%", 0, "%"}, {"%", 4, "%"}, {"%41", 4, "%41"}, {"%zz", 4, "%zz"}, {"%%", 3, "%%"}, {"% ", 3, "%%20"},
		{"%\x00", 0, "%%00"}, {"%4\xff", 0, "%4%FF"},
		{"a b", 0, "a b"}, {"a b", 1, "a%20b"}, {"a b", 2, "a%20b"}, {"a b", 3, "a%20b"}, {"a b", 4, "a%20b"}, {"a b", 5, "a b"},
		{"\x00\x1f\x7f\x80\xff", 0, "%00%1F%7F%80%FF"}, {" ~", 0, " ~"},
		{"\x00\x1f\x7f\x80\xff", -1, "\x00\x1f\x7f\x80\xff"},
		{" \"#'<>?^`{}/:;=@[\\]|", 0, " \"#'<>?^`{}/:;=@[\\]|"},
		{" \"#'<>?^`{}/:;=@[\\]|", 1, "%20%22#'%3C%3E?^%60{}/:;=@[\\]|"},
		{" \"#'<>?^`{}/:;=@[\\]|", 2, "%20%22%23%27%3C%3E?^`{}/:;=@[\\]|"},
		{" \"#'<>?^`{}/:;=@[\\]|", 3, "%20%22%23%27%3C%3E%3F%5E%60%7B%7D/:;=@[\\]|"},
		{" \"#'<>?^`{}/:;=@[\\]|", 4, "%20%22%23%27%3C%3E%3F%5E%60%7B%7D%2F%3A%3B%3D%40%5B%5C%5D%7C"},
		{"é", 0, "%C3%A9"}, {"\xc3", 0, "%C3"}, {"\u2028", 1, "%E2%80%A8"}, {"\xed\xa0\x80", 1, "%ED%A0%80"},
	} {
		if got := pct.Encode(x.s, x.set); got != x.want {
			t.Errorf("Encode(%q, %d) = %q, want %q", x.s, x.set, got, x.want)
		}
	}
}

// P3.1 and P3.2: each byte, alone and between others, for each set.
func TestEachByte(t *testing.T) {
	eachSet(func(set int) {
		for n := range 256 {
			c := string([]byte{byte(n)})
			for _, s := range []string{c, c + "a", "a" + c, "a" + c + "a", c + c, "%" + c, c + "%", "%4" + c} {
				check(t, s, set)
			}
		}
	})
}

// P3.1 and P3.2
func TestEncodeAndReadyOfTexts(t *testing.T) {
	eachText(func(s string) {
		for _, set := range []int{0, 1, 2, 3, 4, -1, 5} {
			check(t, s, set)
		}
	})
}

// P3.2
func TestDecode(t *testing.T) {
	for s, want := range map[string]string{
		"":             "",
		"a":            "a",
		"%":            "%",
		"%%":           "%%",
		"%%%":          "%%%",
		"%4":           "%4",
		"%a":           "%a",
		"a%":           "a%",
		"a%4":          "a%4",
		"a%41":         "aA",
		"%41":          "A",
		"%41b":         "Ab",
		"%411":         "A1",
		"%00":          "\x00",
		"%ff":          "\xff",
		"%FF":          "\xff",
		"%fF%Ff":       "\xff\xff",
		"%e9%C3":       "\xe9\xc3",
		"%c3%a9":       "é",
		"%41%42":       "AB",
		"%41%4":        "A%4",
		"%4%41":        "%4A",
		"%%41":         "%A",
		"%%4":          "%%4",
		"%41%":         "A%",
		"%25":          "%",
		"%2541":        "%41", // what is decoded is not looked at again
		"%25%34%31":    "%41",
		"%%34%31":      "%41",
		"%2%35":        "%25",
		"%g1":          "%g1",
		"%1g":          "%1g",
		"%G1":          "%G1",
		"%1G":          "%1G",
		"%zz":          "%zz",
		"%/0":          "%/0",
		"%0/":          "%0/",
		"%:0":          "%:0",
		"%0:":          "%0:",
		"%@1":          "%@1",
		"%1@":          "%1@",
		"%`1":          "%`1",
		"%1`":          "%1`",
		"% 1":          "% 1",
		"%+1":          "%+1",
		"%-1":          "%-1",
		"%0x":          "%0x",
		"%x0":          "%x0",
		"%\xff0":       "%\xff0",
		"%0\xff":       "%0\xff",
		"%4\x00%41":    "%4\x00A",
		"%\x00":        "%\x00",
		"a+b":          "a+b",
		"\xff\x80":     "\xff\x80",
		"a%20b%":       "a b%",
		"%ef%bc%854":   "\xef\xbc\x854",
		"\xef\xbc\x85": "\xef\xbc\x85", // a percent sign by Unicode alone
	} {
		if got := pct.Decode(s); got != want {
			t.Errorf("Decode(%q) = %q, want %q", s, got, want)
		}
	}
}

// P3.2: each byte at each of the two places behind a percent sign, and all pairs of both.
func TestDecodeOfEachPair(t *testing.T) {
	for a := range 256 {
		for b := range 256 {
			checkDecode(t, string([]byte{'%', byte(a), byte(b)}))
			checkDecode(t, string([]byte{'x', '%', byte(a), byte(b), '1'}))
		}
		checkDecode(t, string([]byte{'%', byte(a)}))
		checkDecode(t, string([]byte{byte(a)}))
	}
}

// P3.2: each byte is told, in small and in capital letters.
func TestDecodeTellsEachByte(t *testing.T) {
	for n := range 256 {
		want := string([]byte{byte(n)})
		for _, s := range []string{fmt.Sprintf("%%%02x", n), fmt.Sprintf("%%%02X", n)} {
			if got := pct.Decode(s); got != want {
				t.Errorf("Decode(%q) = %q, want %q", s, got, want)
			}
		}
	}
}

// P3.2
func TestDecodeOfTexts(t *testing.T) {
	eachText(func(s string) {
		checkDecode(t, s)
		checkDecode(t, s+"%41")
		checkDecode(t, "%"+s)
	})
}

// P3.2
func TestReady(t *testing.T) {
	for _, x := range []struct {
		s    string
		set  int
		want bool
	}{
		{"", 0, true}, {"", 4, true}, {"", -1, true}, {"", 5, true},
		{"\x00 \xff", -1, true}, {"\x00 \xff", 5, true}, {"\x00 \xff", math.MinInt, true}, {"\x00 \xff", math.MaxInt, true},
		{"a b", 0, true}, {"a b", 1, false}, {"a%20b", 4, true}, {"%", 4, true}, {"%zz", 4, true},
		{" a", 3, false}, {"a ", 3, false}, {"a", 3, true},
		{"a`", 2, true}, {"a`", 1, false}, {"a#", 1, true}, {"a#", 2, false}, {"a?", 2, true}, {"a?", 3, false},
		{"a/b", 3, true}, {"a/b", 4, false}, {"\x1f", 0, false}, {"~", 4, true}, {"\x7f", 0, false}, {"\x80", 0, false},
	} {
		if got := pct.Ready(x.s, x.set); got != x.want {
			t.Errorf("Ready(%q, %d) = %v, want %v", x.s, x.set, got, x.want)
		}
	}
}

// P3.3
func TestWhatFollows(t *testing.T) {
	eachText(func(s string) {
		for _, set := range []int{0, 1, 2, 3, 4, -1, 5} {
			checkFollows(t, s, set)
		}
	})
}

// P3.3: all bytes in one text.
func TestWhatFollowsOfAllBytes(t *testing.T) {
	var all []byte
	for c := range 256 {
		if c != '%' {
			all = append(all, byte(c))
		}
	}
	for _, s := range []string{string(all), string(all) + "%41%ff", "%00" + string(all)} {
		eachSet(func(set int) {
			check(t, s, set)
			checkFollows(t, s, set)
		})
	}
}

// P1: long texts are worked off.
func TestLongTexts(t *testing.T) {
	const n = 1 << 20
	blanks, signs, letters := strings.Repeat(" ", n), strings.Repeat("%", n), strings.Repeat("a", n)
	twenties := strings.Repeat("%20", n)
	if pct.Encode(blanks, 3) != twenties || pct.Decode(twenties) != blanks {
		t.Error("blanks are not encoded or decoded")
	}
	if pct.Encode(signs, 4) != signs || pct.Decode(signs) != signs || pct.Decode(signs+"41") != signs[1:]+"A" {
		t.Error("percent signs do not stay")
	}
	if !pct.Ready(letters, 4) || pct.Ready(letters+" ", 4) || pct.Ready(" "+letters, 4) || !pct.Ready(blanks, 0) {
		t.Error("Ready of a long text is wrong")
	}
}

// R5: what was asked before changes nothing.
func TestAskedAgain(t *testing.T) {
	for range 3 {
		if pct.Encode(" /\xff", 3) != "%20/%FF" || pct.Encode(" /\xff", 4) != "%20%2F%FF" || pct.Encode(" /\xff", 5) != " /\xff" {
			t.Fatal("an answer of Encode changed")
		}
		if pct.Decode("%2f%") != "/%" || pct.Ready("/", 4) || !pct.Ready("/", 3) || pct.In(3, '/') || !pct.In(4, '/') {
			t.Fatal("an answer changed")
		}
	}
}

// FuzzBytes holds the promises against any text and set: its seeds run with the other tests.
func FuzzBytes(f *testing.F) {
	for _, s := range []string{"", " é", "%", "%4", "%41", "%%41", "%2541", "a b%c/?#\xc3\x7f\x00", "%zz\xff"} {
		for _, set := range []int{0, 1, 2, 3, 4, 5, -1} {
			f.Add(s, set)
		}
	}
	f.Fuzz(func(t *testing.T, s string, set int) {
		check(t, s, set)
		checkDecode(t, s)
		checkFollows(t, s, set)
		// Most numbers are of no set, so each text is held against one that is.
		check(t, s, len(s)%sets)
		checkFollows(t, s, len(s)%sets)
	})
}

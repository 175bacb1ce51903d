package path_test

import (
	"fmt"
	"net/url"
	stdpath "path"
	"regexp"
	"slices"
	"strings"
	"testing"

	"postmark/path"
)

// The bytes that a segment of a path encodes, from 32 to 126.
const inSet = " \"#'<>?^`{}"

var (
	singles = []string{".", "%2e", "%2E"}
	// Segments that are no dots, but look like them, or have dots.
	noDots = []string{"", "a", "...", "....", ".a", "a.", "..a", "a..", ". ", " .", ".. ", " ..", "./", "/.", "../", ".\x00", "\x00.", ". .", ".\\", "%", "%2", "%2f", "%2F", "%2d", "%2e%", "%%2e", "%2e%2", "%2%2e", "%2%2ee", "%.2e", "%2.e", "%2e2e", "2e", "2e2e", "%2e%2e%2e", "%2e%2e.", "%2e.%2e", ".%2e%2E", "%2ea", "a%2e", "%2e%2ea", "a%2e%2e", "%252e", "%e2", "%3e", "%1e", "%2g", "\xc2\xad.", "\xff", "\x0e", "N", ",", "n", "\xae", "%2\xc4\x93", "%2\xc4\x92", "\xef\xbc\x8e", "\xef\xbc\x852e"}
)

func wantIn(c byte) bool { return c < 32 || c > 126 || strings.IndexByte(inSet, c) >= 0 }

func wantEncode(s string) string {
	var out strings.Builder
	for i := range len(s) {
		if wantIn(s[i]) {
			fmt.Fprintf(&out, "%%%02X", s[i])
		} else {
			out.WriteByte(s[i])
		}
	}
	return out.String()
}

var (
	oneForm = regexp.MustCompile(`\A(\.|%2[eE])\z`)
	twoForm = regexp.MustCompile(`\A(\.|%2[eE]){2}\z`)
)

// wantDots is the chapter's section "Words".
func wantDots(s string) int {
	switch {
	case oneForm.MatchString(s):
		return 1
	case twoForm.MatchString(s):
		return 2
	}
	return 0
}

// wantNorm is P8.1 from the end: two dots take away the nearest segment ahead that nothing else has taken.
func wantNorm(l []string) []string {
	var out []string
	if len(l) > 0 && wantDots(l[len(l)-1]) > 0 {
		out = append(out, "")
	}
	taken := 0
	for _, s := range slices.Backward(l) {
		switch {
		case wantDots(s) == 2:
			taken++
		case wantDots(s) == 0 && taken > 0:
			taken--
		case wantDots(s) == 0:
			out = append(out, s)
		}
	}
	slices.Reverse(out)
	return out
}

// wantMerge is P8.2: segments of a base stay as they are, but for dots.
func wantMerge(base []string, s string) []string {
	var l []string
	for i := 0; i+1 < len(base); i++ {
		l = append(l, base[i])
	}
	if s != "" && s[0] == '/' {
		s = s[1:]
	}
	for _, part := range strings.Split(s, "/") {
		l = append(l, wantEncode(part))
	}
	return wantNorm(l)
}

// wantShow and wantMay are P8.3.
func wantShow(l []string) string {
	if len(l) == 0 {
		return ""
	}
	return "/" + strings.Join(l, "/")
}

func wantMay(l []string) bool {
	for _, s := range l {
		if wantEncode(s) != s || wantDots(s) != 0 || strings.Count(s, "/") > 0 {
			return false
		}
	}
	return len(l) != 0
}

func checkDots(t *testing.T, s string, want int) {
	t.Helper()
	if got := path.Dots(s); got != want {
		t.Errorf("Dots(%q) = %d, want %d", s, got, want)
	}
}

// same tells whether two lists are, and shortens what is told of long ones.
func same(t *testing.T, what string, got, want []string) {
	t.Helper()
	if !slices.Equal(got, want) {
		t.Errorf("%.200s = %.200q, want %.200q", what, got, want)
	}
}

// filled are segments with room behind their end, and the whole of them with that room.
func filled(l []string) (list, whole []string) {
	whole = append(slices.Clone(l), "behind", "further", "last")
	return whole[:len(l)], whole
}

// checkStays calls one that answers segments, and is R3: neither what is handed in nor the room behind it is changed by the call, or by a change of what it answers, and the other way round.
func checkStays(t *testing.T, what string, l []string, call func([]string) []string) []string {
	t.Helper()
	list, whole := filled(l)
	before := slices.Clone(whole)
	got := call(list)
	answer := slices.Clone(got)
	same(t, what+": what was handed in", whole, before)
	// Room behind the end of what is answered may be written to by an append, too.
	for i := range got[:cap(got)] {
		got[:cap(got)][i] = "changed"
	}
	same(t, what+": what was handed in, with what is answered changed", whole, before)

	list, whole = filled(l)
	got = call(list)
	for i := range whole {
		whole[i] = "changed"
	}
	same(t, what+": what is answered, with what was handed in changed", got, answer)
	return answer
}

// checkNorm is P8.1, and that what is normed is so.
func checkNorm(t *testing.T, l, want []string) {
	t.Helper()
	what := fmt.Sprintf("Norm(%q)", l)
	got := checkStays(t, what, l, path.Norm)
	same(t, what, got, want)
	same(t, what+", again", path.Norm(got), want)
}

// checkList is P8.1, P8.3 and P8.4 of segments.
func checkList(t *testing.T, l []string) {
	t.Helper()
	checkNorm(t, l, wantNorm(l))
	shown := path.Show(l)
	if want := wantShow(l); shown != want {
		t.Errorf("Show(%q) = %q, want %q", l, shown, want)
	}
	may := wantMay(l)
	if got := path.May(l); got != may {
		t.Errorf("May(%q) = %v", l, got)
	}
	// What is parsed to itself is what may be, and nothing else.
	if got := path.Parse(shown); slices.Equal(got, l) != may {
		t.Errorf("%q may be: %v; shown, it is parsed to %q", l, may, got)
	}
}

// checkParsed is P8.4.
func checkParsed(t *testing.T, l []string) {
	t.Helper()
	if !path.May(l) {
		t.Errorf("%q is parsed, but may not be", l)
	}
	same(t, fmt.Sprintf("Parse(Show(%q))", l), path.Parse(path.Show(l)), l)
}

// checkParse is P8.2 and P8.4 of a text, and what the two calls of P8.2 have in common.
func checkParse(t *testing.T, s string, want []string) {
	t.Helper()
	got := path.Parse(s)
	same(t, fmt.Sprintf("Parse(%q)", s), got, want)
	checkParsed(t, got)
	same(t, fmt.Sprintf("Merge(nil, %q)", s), path.Merge(nil, s), want)
	same(t, fmt.Sprintf("Merge of one and %q", s), path.Merge([]string{".."}, s), want)
}

func checkText(t *testing.T, s string) {
	t.Helper()
	checkParse(t, s, wantMerge(nil, s))
}

// checkMerge is P8.2 and P8.4.
func checkMerge(t *testing.T, base []string, s string, want []string) {
	t.Helper()
	what := fmt.Sprintf("Merge(%q, %q)", base, s)
	got := checkStays(t, what, base, func(l []string) []string { return path.Merge(l, s) })
	same(t, what, got, want)
	if wantMay(base) {
		checkParsed(t, got)
		// One slash that the text begins with is left off.
		if !strings.HasPrefix(s, "/") {
			same(t, what+", with a slash", path.Merge(base, "/"+s), want)
		}
	}
}

func checkBeside(t *testing.T, base []string, s string) {
	t.Helper()
	checkMerge(t, base, s, wantMerge(base, s))
}

// eachList calls f with all lists of up to some of these segments.
func eachList(most int, segments []string, f func([]string)) {
	lists := [][]string{{}}
	f(nil)
	for range most {
		var next [][]string
		for _, l := range lists {
			for _, s := range segments {
				more := append(slices.Clone(l), s)
				next = append(next, more)
				f(more)
			}
		}
		lists = next
	}
}

// The chapter's section "Examples".
func TestExamples(t *testing.T) {
	checkParse(t, "/a/./b/../c", []string{"a", "c"})
	checkParse(t, "/a/..", []string{""})
}

// P8.1
func TestDots(t *testing.T) {
	checkDots(t, "", 0)
	for _, s := range noDots {
		checkDots(t, s, 0)
	}
	for _, a := range singles {
		checkDots(t, a, 1)
		for _, b := range singles {
			checkDots(t, a+b, 2)
			for _, c := range singles {
				checkDots(t, a+b+c, 0)
				for _, d := range singles {
					checkDots(t, a+b+c+d, 0)
				}
			}
		}
	}
}

// P8.1: each byte put in dots, put at the place of another one, and taken out.
func TestDotsOneByteElse(t *testing.T) {
	forms := []string{""}
	for _, a := range singles {
		forms = append(forms, a)
		for _, b := range singles {
			forms = append(forms, a+b)
		}
	}
	for _, s := range forms {
		for n := range 256 {
			c := string([]byte{byte(n)})
			for i := range len(s) + 1 {
				checkDots(t, s[:i]+c+s[i:], wantDots(s[:i]+c+s[i:]))
				if i < len(s) {
					checkDots(t, s[:i]+c+s[i+1:], wantDots(s[:i]+c+s[i+1:]))
				}
			}
		}
		for i := range len(s) {
			checkDots(t, s[:i]+s[i+1:], wantDots(s[:i]+s[i+1:]))
		}
	}
}

// P8.1: all texts of up to seven of the bytes that dots are of.
func TestDotsAll(t *testing.T) {
	list := []string{""}
	for range 7 {
		var next []string
		for _, s := range list {
			for _, c := range []string{".", "%", "2", "e", "E"} {
				next = append(next, s+c)
				checkDots(t, s+c, wantDots(s+c))
			}
		}
		list = next
	}
}

// P8.1
func TestNorm(t *testing.T) {
	for _, x := range []struct{ l, want []string }{
		{nil, nil},
		{[]string{}, nil},
		{[]string{""}, []string{""}},
		{[]string{"", ""}, []string{"", ""}},
		{[]string{"a"}, []string{"a"}},
		{[]string{"a", "b"}, []string{"a", "b"}},
		{[]string{"a", "a"}, []string{"a", "a"}},
		// One dot alone, first, between, last.
		{[]string{"."}, []string{""}},
		{[]string{".", "."}, []string{""}},
		{[]string{".", "a"}, []string{"a"}},
		{[]string{".", ""}, []string{""}},
		{[]string{"a", ".", "b"}, []string{"a", "b"}},
		{[]string{"a", ".", ".", "b"}, []string{"a", "b"}},
		{[]string{"a", "."}, []string{"a", ""}},
		{[]string{"a", ".", "."}, []string{"a", ""}},
		{[]string{"", "."}, []string{"", ""}},
		// Two dots alone, first, between, last.
		{[]string{".."}, []string{""}},
		{[]string{"..", ".."}, []string{""}},
		{[]string{"..", "a"}, []string{"a"}},
		{[]string{"..", ""}, []string{""}},
		{[]string{"a", "..", "b"}, []string{"b"}},
		{[]string{"a", "b", "..", "c"}, []string{"a", "c"}},
		{[]string{"a", "b", "c", "..", "..", "d"}, []string{"a", "d"}},
		{[]string{"a", ".."}, []string{""}},
		{[]string{"a", "b", ".."}, []string{"a", ""}},
		{[]string{"a", "b", "..", ".."}, []string{""}},
		{[]string{"a", "b", "c", "..", ".."}, []string{"a", ""}},
		// No segment is left to take away.
		{[]string{"..", "..", "a"}, []string{"a"}},
		{[]string{"a", "..", "..", "b"}, []string{"b"}},
		{[]string{"a", "..", "..", ".."}, []string{""}},
		{[]string{"a", "b", "..", "..", "..", "..", "c", "d"}, []string{"c", "d"}},
		{[]string{"a", "..", "..", "b", "..", "c"}, []string{"c"}},
		// Both.
		{[]string{".", ".."}, []string{""}},
		{[]string{"..", "."}, []string{""}},
		{[]string{"a", ".", ".."}, []string{""}},
		{[]string{"a", "..", "."}, []string{""}},
		{[]string{"a", "b", ".", ".."}, []string{"a", ""}},
		{[]string{"a", "b", "..", "."}, []string{"a", ""}},
		{[]string{"a", "b", ".", "..", "c"}, []string{"a", "c"}},
		// Empty ones are segments as others are.
		{[]string{"", ".."}, []string{""}},
		{[]string{"", "..", "a"}, []string{"a"}},
		{[]string{"a", "", ".."}, []string{"a", ""}},
		{[]string{"a", "", "..", "b"}, []string{"a", "b"}},
		{[]string{"a", "", "", "..", "b"}, []string{"a", "", "b"}},
		{[]string{"", "", "..", ".."}, []string{""}},
		{[]string{"", "a", ".."}, []string{"", ""}},
		{[]string{"a", "..", ""}, []string{""}},
		{[]string{"a", ".", ""}, []string{"a", ""}},
		{[]string{".", "", "."}, []string{"", ""}},
		// Dots in other forms.
		{[]string{"a", "%2e", "b"}, []string{"a", "b"}},
		{[]string{"a", "%2E"}, []string{"a", ""}},
		{[]string{"a", "b", "%2e.", "c"}, []string{"a", "c"}},
		{[]string{"a", "b", ".%2E"}, []string{"a", ""}},
		{[]string{"a", "b", "%2E%2e", "%2e%2e"}, []string{""}},
		// Others stay as they are, whatever their bytes.
		{[]string{"a/b", "c d"}, []string{"a/b", "c d"}},
		{[]string{"a/..", "../b", "/", "./."}, []string{"a/..", "../b", "/", "./."}},
		{[]string{"é", "\xff\x00", "a?#b", "%20", "%", "\\"}, []string{"é", "\xff\x00", "a?#b", "%20", "%", "\\"}},
		{[]string{"a/b", "..", "c d", "."}, []string{"c d", ""}},
		{[]string{"A", "a", "%2F", "%2f"}, []string{"A", "a", "%2F", "%2f"}},
		{[]string{"...", "..", "....", "."}, []string{"....", ""}},
	} {
		checkNorm(t, x.l, x.want)
		checkList(t, x.l)
	}
}

// P8.1: each segment that is no dots, alone, and beside dots.
func TestNormNoDots(t *testing.T) {
	for _, s := range noDots {
		checkNorm(t, []string{s}, []string{s})
		checkNorm(t, []string{s, s}, []string{s, s})
		checkNorm(t, []string{".", s, "."}, []string{s, ""})
		checkNorm(t, []string{"..", s}, []string{s})
		checkNorm(t, []string{s, ".."}, []string{""})
		checkNorm(t, []string{s, "a", "..", "b"}, []string{s, "b"})
		checkList(t, []string{s})
		checkList(t, []string{"a", s})
		checkList(t, []string{s, "a"})
	}
}

// P8.1, P8.3, P8.4: all lists of up to six of four segments, and of up to four of more.
func TestLists(t *testing.T) {
	check := func(l []string) { checkList(t, l) }
	eachList(6, []string{"a", "", ".", ".."}, check)
	eachList(4, []string{"a", "b", "", ".", "%2E", "..", "%2e.", "...", "c d", "/"}, check)
}

// P8.1: of segments that are not empty, the library's own path is the same, but for what ends it.
func TestLibraryPath(t *testing.T) {
	eachList(6, []string{"a", "b", ".", ".."}, func(l []string) {
		if len(l) == 0 {
			return
		}
		want := stdpath.Clean("/" + strings.Join(l, "/"))
		if wantDots(l[len(l)-1]) > 0 && want != "/" {
			want += "/"
		}
		if got := path.Show(path.Norm(l)); got != want {
			t.Errorf("Norm(%q) is shown as %q, want %q", l, got, want)
		}
	})
}

// P8.2
func TestParse(t *testing.T) {
	for s, want := range map[string][]string{
		"": {""}, "/": {""}, "//": {"", ""}, "///": {"", "", ""},
		"a": {"a"}, "/a": {"a"}, "//a": {"", "a"}, "///a": {"", "", "a"},
		"a/": {"a", ""}, "/a/": {"a", ""}, "/a//": {"a", "", ""}, "//a/": {"", "a", ""},
		"a/b": {"a", "b"}, "/a/b": {"a", "b"}, "/a//b": {"a", "", "b"}, "/a/b/": {"a", "b", ""},
		".": {""}, "..": {""}, "/.": {""}, "/..": {""}, "./": {""}, "../": {""}, "/./": {""}, "/../": {""},
		"//.": {"", ""}, "//..": {""}, "//../": {""}, "/.//": {"", ""}, "/..//": {"", ""}, "/..//..": {""},
		"./a": {"a"}, "../a": {"a"}, "/./a": {"a"}, "/../a": {"a"}, "/../../a": {"a"},
		"/a/.": {"a", ""}, "/a/./": {"a", ""}, "/a/..": {""}, "/a/../": {""}, "/a/b/..": {"a", ""}, "/a/b/../": {"a", ""}, "/a/b/../..": {""}, "/a/b/../../..": {""}, "/a//..": {"a", ""}, "/a//../b": {"a", "b"},
		"/a/%2e": {"a", ""}, "/a/%2E/b": {"a", "b"}, "/a/b/%2e%2E/c": {"a", "c"}, "/a/%2E.": {""}, "/a/.%2e/b": {"b"}, "/%2e/%2E%2e/x": {"x"}, "%2e": {""}, "%2e%2e": {""}, "%2e%2e/a": {"a"},
		"/...": {"..."}, "/.a/a./..a": {".a", "a.", "..a"}, "/%2e%2e%2e": {"%2e%2e%2e"}, "/%252e": {"%252e"}, "/. /.": {".%20", ""}, "/ ./..": {""}, "/.\x00./a": {".%00.", "a"},
		"/a b": {"a%20b"}, "/ ": {"%20"}, " /": {"%20", ""}, "?": {"%3F"}, "/a?b#c": {"a%3Fb%23c"}, "/é": {"%C3%A9"}, "/\xff": {"%FF"}, "/\x80/\x7f/\x00": {"%80", "%7F", "%00"}, "/a\tb\n": {"a%09b%0A"},
		"%": {"%"}, "/%/%2/%zz/%2f/%20/%e": {"%", "%2", "%zz", "%2f", "%20", "%e"}, "/%2F%2e": {"%2F%2e"}, "/a%": {"a%"},
		"/\\": {"\\"}, "\\..\\": {"\\..\\"}, "/a:b@c;d=e|[f]": {"a:b@c;d=e|[f]"}, "/~!$&()*+,-_": {"~!$&()*+,-_"}, "/A/B": {"A", "B"}, "http://a/b": {"http:", "", "a", "b"},
	} {
		checkParse(t, s, want)
		checkText(t, s)
	}
}

// P8.2: each byte in a segment, and each one alone.
func TestParseBytes(t *testing.T) {
	for n := range 256 {
		c := string([]byte{byte(n)})
		for _, s := range []string{c, "a" + c, c + "a", "a" + c + "b", c + c, "%" + c, "%2" + c, c + "2e", "." + c, c + ".", ".." + c} {
			for _, s := range []string{s, "/" + s, s + "/", "/" + s + "/", "/x/" + s + "/y", "/x/" + s + "/..", "/x/../" + s} {
				checkText(t, s)
			}
		}
		if c == "/" || c == "." {
			continue
		}
		want := c
		if wantIn(byte(n)) {
			want = fmt.Sprintf("%%%02X", n)
		}
		checkParse(t, "/"+c+"/a"+c+"b", []string{want, "a" + want + "b"})
	}
}

// P8.2, P8.4: each byte put in some texts, put at the place of another one, and taken out.
func TestParseOneByteElse(t *testing.T) {
	for _, s := range []string{"/a/./b/../c", "/%2e/%2E%2e/x", "//a//", "/a/..", "../..", "/é/ ?"} {
		for n := range 256 {
			c := string([]byte{byte(n)})
			for i := range len(s) + 1 {
				checkText(t, s[:i]+c+s[i:])
				if i < len(s) {
					checkText(t, s[:i]+c+s[i+1:])
				}
			}
		}
		for i := range len(s) {
			checkText(t, s[:i]+s[i+1:])
			checkText(t, s[:i])
			checkText(t, s[i:])
		}
	}
}

// P8.2, P8.4: all texts of up to seven of a few bytes, and of up to five of more pieces.
func TestTexts(t *testing.T) {
	eachList(7, []string{"/", ".", "a"}, func(l []string) { checkText(t, strings.Join(l, "")) })
	eachList(5, []string{"/", ".", "%2e", "%", "2", "E", " "}, func(l []string) { checkText(t, strings.Join(l, "")) })
}

// P8.2
func TestMerge(t *testing.T) {
	ab := []string{"a", "b"}
	abc := []string{"a", "b", "c"}
	for _, x := range []struct {
		base []string
		s    string
		want []string
	}{
		// Beside none, and beside one.
		{nil, "", []string{""}},
		{nil, "c", []string{"c"}},
		{[]string{}, "/c", []string{"c"}},
		{nil, "..", []string{""}},
		{[]string{"a"}, "", []string{""}},
		{[]string{"a"}, "c", []string{"c"}},
		{[]string{"a"}, "c/d", []string{"c", "d"}},
		{[]string{"a"}, "..", []string{""}},
		{[]string{"a"}, ".", []string{""}},
		{[]string{""}, "", []string{""}},
		{[]string{""}, "c", []string{"c"}},
		{[]string{".."}, "c", []string{"c"}},
		{[]string{"a b"}, "c", []string{"c"}},
		// Beside some, the last one empty or not.
		{ab, "", []string{"a", ""}},
		{ab, "c", []string{"a", "c"}},
		{ab, "c/", []string{"a", "c", ""}},
		{ab, "c/d", []string{"a", "c", "d"}},
		{ab, ".", []string{"a", ""}},
		{ab, "./c", []string{"a", "c"}},
		{[]string{"a", ""}, "", []string{"a", ""}},
		{[]string{"a", ""}, "c", []string{"a", "c"}},
		{[]string{"a", ""}, "..", []string{""}},
		{[]string{"", ""}, "c", []string{"", "c"}},
		{[]string{"", ""}, "..", []string{""}},
		{[]string{"", "", ""}, "../c", []string{"", "c"}},
		{[]string{"a", "", "b"}, "../c", []string{"a", "c"}},
		{[]string{"a", "", "b"}, "c", []string{"a", "", "c"}},
		// Texts that begin by a slash, and by more.
		{ab, "/", []string{"a", ""}},
		{ab, "/c", []string{"a", "c"}},
		{ab, "//", []string{"a", "", ""}},
		{ab, "//c", []string{"a", "", "c"}},
		{ab, "///c", []string{"a", "", "", "c"}},
		{ab, "/../c", []string{"c"}},
		{ab, "//../c", []string{"a", "c"}},
		{[]string{"a"}, "//c", []string{"", "c"}},
		{nil, "//", []string{"", ""}},
		// Texts that go up, less often than there are segments, as often, and more.
		{abc, "..", []string{"a", ""}},
		{abc, "../", []string{"a", ""}},
		{abc, "../d", []string{"a", "d"}},
		{abc, "../..", []string{""}},
		{abc, "../../d", []string{"d"}},
		{abc, "../../..", []string{""}},
		{abc, "../../../d", []string{"d"}},
		{abc, "../../../../../d/e", []string{"d", "e"}},
		{abc, "d/../../e", []string{"a", "e"}},
		{abc, "d/../../../../e/..", []string{""}},
		{abc, "%2e%2E/d", []string{"a", "d"}},
		{abc, ".%2e/%2E./d/%2e", []string{"d", ""}},
		{abc, "./../d", []string{"a", "d"}},
		// The text's bytes are encoded, percent signs stay.
		{ab, "c d", []string{"a", "c%20d"}},
		{ab, "é/?", []string{"a", "%C3%A9", "%3F"}},
		{ab, "%/%2/%20", []string{"a", "%", "%2", "%20"}},
		{ab, "\\", []string{"a", "\\"}},
		// Segments of the base that are dots, the last one and others.
		{[]string{"a", "."}, "c", []string{"a", "c"}},
		{[]string{"a", ".."}, "c", []string{"a", "c"}},
		{[]string{"..", "b"}, "c", []string{"c"}},
		{[]string{".", "b"}, "", []string{""}},
		{[]string{"a", "..", "b"}, "c", []string{"c"}},
		{[]string{"a", ".", "b"}, "c", []string{"a", "c"}},
		{[]string{"a", "%2e", "b"}, "", []string{"a", ""}},
		{[]string{"a", "b", "%2E.", "c"}, "d", []string{"a", "d"}},
		{[]string{"a", "b", "..", "c"}, "..", []string{""}},
		{[]string{"..", "..", "a", "b"}, "../../c", []string{"c"}},
		// Segments of the base that aren't ready stay so.
		{[]string{"a b", "c"}, "d", []string{"a b", "d"}},
		{[]string{"a b", "c d"}, "e f", []string{"a b", "e%20f"}},
		{[]string{"é", "\xff", "?#", "c"}, "d", []string{"é", "\xff", "?#", "d"}},
		{[]string{"a/b", "c"}, "d", []string{"a/b", "d"}},
		{[]string{"a/b", "c"}, "../d", []string{"d"}},
		{[]string{"/", "/..", "c"}, "d", []string{"/", "/..", "d"}},
		{[]string{"a", "b c", "d"}, "..", []string{"a", ""}},
		{[]string{"%20", "%", "c"}, "d", []string{"%20", "%", "d"}},
	} {
		checkMerge(t, x.base, x.s, x.want)
		checkBeside(t, x.base, x.s)
	}
}

// P8.2: each byte in a segment of a base, and in a text beside one.
func TestMergeBytes(t *testing.T) {
	for n := range 256 {
		c := string([]byte{byte(n)})
		checkMerge(t, []string{"x" + c + "y", c}, "a", []string{"x" + c + "y", "a"})
		checkBeside(t, []string{c, c, "b"}, "a"+c+"/"+c)
		checkBeside(t, []string{"x", "." + c, "b"}, c)
		checkBeside(t, []string{"x", c + ".", "b"}, ".."+c)
	}
}

// P8.2: all bases of up to three segments beside all texts of up to four pieces; and bases beside texts that go up, up to some times more than there are segments.
func TestBases(t *testing.T) {
	var texts []string
	eachList(4, []string{"/", ".", "..", "c", " "}, func(l []string) { texts = append(texts, strings.Join(l, "")) })
	eachList(3, []string{"a", "", "..", "%2e", "b d"}, func(base []string) {
		for _, s := range texts {
			checkBeside(t, base, s)
		}
	})
	for size := range 6 {
		base := make([]string, size)
		for i := range base {
			base[i] = string(rune('a' + i))
		}
		for up := range 9 {
			left := slices.Clone(base[:max(size-1-up, 0)])
			for _, two := range []string{"..", "%2e.", "%2E%2e"} {
				s := strings.Repeat(two+"/", up)
				checkMerge(t, base, s, append(slices.Clone(left), ""))
				checkMerge(t, base, s+"x", append(slices.Clone(left), "x"))
				checkMerge(t, base, "/"+s+"x/y", append(slices.Clone(left), "x", "y"))
				checkMerge(t, base, s+"x/"+two, append(slices.Clone(left), ""))
			}
		}
	}
}

// P8.2: beside a path that may be, without empty segments, the library's own addresses go to the same place.
func TestLibraryAddresses(t *testing.T) {
	eachList(4, []string{"a", "b", ".", ".."}, func(l []string) {
		s := strings.Join(l, "/")
		for _, base := range []string{"/", "/x", "/x/", "/x/y", "/x/y/", "/x/y/z"} {
			for _, s := range []string{s, s + "/"} {
				if s == "" || s[0] == '/' {
					continue
				}
				u, err := url.Parse("http://h" + base)
				if err != nil {
					t.Fatal(err)
				}
				ref, err := u.Parse(s)
				if err != nil {
					t.Fatal(err)
				}
				if got := path.Show(path.Merge(path.Parse(base), s)); got != ref.Path {
					t.Errorf("%q beside %q is %q, want %q", s, base, got, ref.Path)
				}
			}
		}
	})
}

// P8.3
func TestShow(t *testing.T) {
	for _, x := range []struct {
		l    []string
		want string
	}{
		{nil, ""},
		{[]string{}, ""},
		{[]string{""}, "/"},
		{[]string{"", ""}, "//"},
		{[]string{"a"}, "/a"},
		{[]string{"a", ""}, "/a/"},
		{[]string{"", "a"}, "//a"},
		{[]string{"a", "b", "c"}, "/a/b/c"},
		{[]string{"a", "", "b"}, "/a//b"},
		{[]string{"c", "b", "a", "b"}, "/c/b/a/b"},
		// It isn't asked whether they may be.
		{[]string{"."}, "/."},
		{[]string{"a", "..", "%2e"}, "/a/../%2e"},
		{[]string{"a b", "é", "\xff\x00"}, "/a b/é/\xff\x00"},
		{[]string{"/", "a/b"}, "///a/b"},
		{[]string{"A%2fB", "?#"}, "/A%2fB/?#"},
	} {
		if got := path.Show(x.l); got != x.want {
			t.Errorf("Show(%q) = %q, want %q", x.l, got, x.want)
		}
	}
}

// P8.3
func TestMay(t *testing.T) {
	for _, l := range [][]string{{""}, {"", ""}, {"a"}, {"a", ""}, {"", "a"}, {"a", "", "b"}, {"%20"}, {"%"}, {"%2"}, {"%2f"}, {"%2e%2e%2e"}, {"..."}, {".a"}, {"a."}, {"%252e"}, {"\\"}, {"~!$&()*+,-_:@;=|[]"}, {"A", "B"}} {
		if !path.May(l) {
			t.Errorf("May(%q) = false", l)
		}
		checkParsed(t, l)
	}
	for _, l := range [][]string{nil, {}, {"a b"}, {" "}, {"é"}, {"\xff"}, {"\x7f"}, {"\x00"}, {"a?"}, {"#"}, {"/"}, {"a/b"}, {"a/"}, {"/a"}, {"."}, {".."}, {"%2e"}, {"%2E"}, {"%2E."}, {".%2e"}, {"%2e%2E"}, {"/.."}} {
		if path.May(l) {
			t.Errorf("May(%q) = true", l)
		}
		if len(l) == 0 {
			continue
		}
		for _, l := range [][]string{{"a", l[0]}, {l[0], "a"}, {"a", l[0], "b"}, {"", l[0], ""}, {l[0], l[0]}} {
			if path.May(l) {
				t.Errorf("May(%q) = true", l)
			}
		}
	}
	for n := range 256 {
		c := string([]byte{byte(n)})
		for _, s := range []string{c, "a" + c, c + "a", "a" + c + "b"} {
			checkList(t, []string{s})
			checkList(t, []string{"a", s, ""})
		}
	}
}

// P1: long texts, and many segments, are worked off.
func TestLong(t *testing.T) {
	const n = 1 << 18
	for _, c := range []string{"/", "a", ".", "%", "%2e", "./", "../", "/a", "a/../", "a/b/../", "\xff", " /", "%2E%2e/", "//.."} {
		s := strings.Repeat(c, n/len(c))
		for _, base := range [][]string{nil, {"x", "y", "z"}} {
			want := wantMerge(base, s)
			got := path.Merge(base, s)
			if !slices.Equal(got, want) {
				t.Errorf("Merge(%q, %q times %d) has %d segments, want %d", base, c, n/len(c), len(got), len(want))
			}
			if !path.May(got) || !slices.Equal(path.Parse(path.Show(got)), got) {
				t.Errorf("%q times %d, beside %q, may not be, or is parsed to something else", c, n/len(c), base)
			}
		}
		if got := path.Dots(s); got != 0 {
			t.Errorf("Dots(%q times %d) = %d", c, n/len(c), got)
		}
	}
	for _, c := range []string{"", "a", ".", "..", "%2e", "/"} {
		l := slices.Repeat([]string{c}, n)
		if got, want := path.Norm(l), wantNorm(l); !slices.Equal(got, want) {
			t.Errorf("Norm of %d times %q has %d segments, want %d", n, c, len(got), len(want))
		}
		if got := path.May(l); got != (wantDots(c) == 0 && c != "/") {
			t.Errorf("May of %d times %q = %v", n, c, got)
		}
		if got := path.Show(l); got != strings.Repeat("/"+c, n) {
			t.Errorf("Show of %d times %q has %d bytes", n, c, len(got))
		}
	}
}

// R3: Show and May change nothing; and what Norm and Merge answer twice is not shared.
func TestOwn(t *testing.T) {
	l := []string{"a", ".", "b c", "..", ""}
	before := slices.Clone(l)
	path.Show(l)
	path.May(l)
	same(t, "what was handed in", l, before)
	for _, call := range []func() []string{
		func() []string { return path.Norm(l) },
		func() []string { return path.Merge(l, "x/y") },
		func() []string { return path.Parse("/a/b/../c") },
	} {
		one, two := call(), call()
		want := slices.Clone(two)
		for i := range one[:cap(one)] {
			one[:cap(one)][i] = "changed"
		}
		same(t, "what is answered twice", two, want)
	}
}

// R3: a piece of a greater list is handed in, the rest of which belongs to somebody else.
func TestRoomBehind(t *testing.T) {
	for end := range 7 {
		whole := []string{"a", "b", ".", "c", "..", "d"}
		before := slices.Clone(whole)
		path.Norm(whole[:end])
		path.Merge(whole[:end], "x/y/../z")
		path.Merge(whole[:end], "")
		path.Merge(whole[:end], "../../..")
		same(t, "the whole", whole, before)
	}
}

// R5: what was asked before changes nothing.
func TestAskedAgain(t *testing.T) {
	for range 3 {
		checkParse(t, "/a/./b/../c", []string{"a", "c"})
		checkMerge(t, []string{"a", "b"}, "../c", []string{"c"})
		checkMerge(t, nil, "", []string{""})
		checkNorm(t, nil, nil)
		checkNorm(t, []string{"a", ".."}, []string{""})
		checkDots(t, "%2e", 1)
		checkDots(t, "", 0)
	}
}

// FuzzPaths holds the promises against any texts: its seeds run with the other tests.
func FuzzPaths(f *testing.F) {
	for _, s := range noDots {
		f.Add(s, "a,b,"+s)
		f.Add("/"+s+"/..", s+",,a")
	}
	for _, s := range singles {
		f.Add("a/"+s+"/b/"+s+s, "a,"+s+",b c")
	}
	f.Fuzz(func(t *testing.T, s, joined string) {
		checkDots(t, s, wantDots(s))
		checkText(t, s)
		l := strings.Split(joined, ",")
		checkList(t, l)
		checkBeside(t, l, s)
		checkBeside(t, path.Parse(joined), s)
	})
}

package head_test

import (
	"fmt"
	"slices"
	"strings"
	"testing"
	"unsafe"

	"postmark/api"
	"postmark/head"
)

const (
	letters = "ABCDEFGHIJKLMNOPQRSTUVWXYZabcdefghijklmnopqrstuvwxyz"
	digits  = "0123456789"
	signs   = "!#$%&'*+-.^_`|~"
)

// wantName is the chapter's section "Words", of names.
func wantName(s string) bool {
	for _, c := range []byte(s) {
		if strings.IndexByte(letters+digits+signs, c) < 0 {
			return false
		}
	}
	return len(s) > 0
}

// wantValue is that section, of values.
func wantValue(s string) bool {
	b := []byte(s)
	if slices.Contains(b, 0) || slices.Contains(b, 10) || slices.Contains(b, 13) {
		return false
	}
	return len(b) == 0 || !blank(b[0]) && !blank(b[len(b)-1])
}

func blank(c byte) bool { return c == 32 || c == 9 }

// wantParse is P13.2, byte by byte.
func wantParse(raw string) ([]api.Field, bool) {
	var out []api.Field
	for raw != "" {
		end := 0
		for end < len(raw) && !(raw[end] == 13 && end+1 < len(raw) && raw[end+1] == 10) {
			end++
		}
		if end == len(raw) {
			return nil, false
		}
		x, is := wantField(raw[:end])
		if !is {
			return nil, false
		}
		out = append(out, x)
		raw = raw[end+2:]
	}
	return out, true
}

func wantField(line string) (api.Field, bool) {
	for i, c := range []byte(line) {
		if c != ':' {
			continue
		}
		from, to := i+1, len(line)
		for from < to && blank(line[from]) {
			from++
		}
		for from < to && blank(line[to-1]) {
			to--
		}
		x := field(line[:i], line[from:to])
		return x, wantName(x.Name) && wantValue(x.Value)
	}
	return api.Field{}, false
}

// low is ascii's Lower.
func low(s string) string {
	b := []byte(s)
	for i, c := range b {
		if c >= 'A' && c <= 'Z' {
			b[i] += 32
		}
	}
	return string(b)
}

// wantAll is the first half of P13.3.
func wantAll(l []api.Field, name string) []string {
	var out []string
	for _, x := range l {
		if low(x.Name) == low(name) {
			out = append(out, x.Value)
		}
	}
	return out
}

// wantGet is the other half.
func wantGet(l []api.Field, name string) (string, bool) {
	s, is := "", false
	for _, value := range wantAll(l, name) {
		if is {
			s += ", "
		}
		s, is = s+value, true
	}
	return s, is
}

// wantSet is the first half of P13.4.
func wantSet(l []api.Field, name, value string) []api.Field {
	var out []api.Field
	set := false
	for _, x := range l {
		switch {
		case low(x.Name) != low(name):
			out = append(out, x)
		case !set:
			out = append(out, field(name, value))
			set = true
		}
	}
	if !set {
		out = append(out, field(name, value))
	}
	return out
}

// wantDrop is the other half.
func wantDrop(l []api.Field, names ...string) []api.Field {
	var out []api.Field
	for _, x := range l {
		goes := false
		for _, name := range names {
			goes = goes || low(x.Name) == low(name)
		}
		if !goes {
			out = append(out, x)
		}
	}
	return out
}

// equal tells whether two lists have the same fields, in order, byte by byte.
func equal(a, b []api.Field) bool {
	if len(a) != len(b) {
		return false
	}
	for i := range a {
		if a[i].Name != b[i].Name || a[i].Value != b[i].Value {
			return false
		}
	}
	return true
}

func field(name, value string) api.Field { return api.Field{Name: name, Value: value} }

// fields puts fields together of names and values, one behind the other.
func fields(texts ...string) []api.Field {
	var out []api.Field
	for i := 0; i+1 < len(texts); i += 2 {
		out = append(out, field(texts[i], texts[i+1]))
	}
	return out
}

// brief is what a test tells of a text, or a list, which may be long.
func brief(x any) string {
	s := fmt.Sprintf("%q", x)
	return s[:min(len(s), 300)]
}

// checkText is P13.1 of a text alone.
func checkText(t *testing.T, s string) {
	t.Helper()
	if got, want := head.Name(s), wantName(s); got != want {
		t.Errorf("Name(%s) = %v, want %v", brief(s), got, want)
	}
	if got, want := head.Value(s), wantValue(s); got != want {
		t.Errorf("Value(%s) = %v, want %v", brief(s), got, want)
	}
}

// checkSame is P13.1 of two lists.
func checkSame(t *testing.T, a, b []api.Field) {
	t.Helper()
	want := equal(a, b)
	if got, back := head.Same(a, b), head.Same(b, a); got != want || back != want {
		t.Errorf("Same(%s, %s) = %v, the other way round %v, want %v", brief(a), brief(b), got, back, want)
	}
}

// checkParse is P13.2.
func checkParse(t *testing.T, raw string) {
	t.Helper()
	got, is := head.Parse(raw)
	want, wantIs := wantParse(raw)
	if is != wantIs || !equal(got, want) {
		t.Errorf("Parse(%s) = %s, %v, want %s, %v", brief(raw), brief(got), is, brief(want), wantIs)
	}
	for _, x := range got {
		if !head.Name(x.Name) || !head.Value(x.Value) {
			t.Errorf("Parse(%s) has %s, which may not be", brief(raw), brief(x))
		}
	}
}

// checkGot is P13.3.
func checkGot(t *testing.T, l []api.Field, name string) {
	t.Helper()
	if got, want := head.All(l, name), wantAll(l, name); !slices.Equal(got, want) {
		t.Errorf("All(%s, %q) = %s, want %s", brief(l), name, brief(got), brief(want))
	}
	got, is := head.Get(l, name)
	if want, wantIs := wantGet(l, name); got != want || is != wantIs {
		t.Errorf("Get(%s, %q) = %s, %v, want %s, %v", brief(l), name, brief(got), is, brief(want), wantIs)
	}
}

// checkSet is the first half of P13.4, and of P13.5.
func checkSet(t *testing.T, l []api.Field, name, value string) {
	t.Helper()
	got := head.Set(l, name, value)
	if want := wantSet(l, name, value); !equal(got, want) {
		t.Errorf("Set(%s, %q, %q) = %s, want %s", brief(l), name, value, brief(got), brief(want))
	}
	if all := head.All(got, name); len(all) != 1 || all[0] != value {
		t.Errorf("Set(%s, %q, %q): All of that = %s", brief(l), name, value, brief(all))
	}
	if s, is := head.Get(got, low(name)); !is || s != value {
		t.Errorf("Set(%s, %q, %q): Get of that = %s, %v", brief(l), name, value, brief(s), is)
	}
	if !equal(head.Drop(got, name), head.Drop(l, name)) {
		t.Errorf("Set(%s, %q, %q) = %s: the others changed", brief(l), name, value, brief(got))
	}
	if again := head.Set(got, name, value); !head.Same(again, got) {
		t.Errorf("Set(%s, %q, %q) = %s, done twice %s", brief(l), name, value, brief(got), brief(again))
	}
}

// checkDrop is the other half of both.
func checkDrop(t *testing.T, l []api.Field, names ...string) {
	t.Helper()
	got := head.Drop(l, names...)
	if want := wantDrop(l, names...); !equal(got, want) {
		t.Errorf("Drop(%s, %s) = %s, want %s", brief(l), brief(names), brief(got), brief(want))
	}
	for _, name := range names {
		if s, is := head.Get(got, name); is || s != "" || len(head.All(got, name)) != 0 {
			t.Errorf("Drop(%s, %s): Get of that and %q = %s, %v", brief(l), brief(names), name, brief(s), is)
		}
	}
	for _, x := range l {
		if !slices.ContainsFunc(names, func(name string) bool { return low(name) == low(x.Name) }) && !slices.Equal(head.All(got, x.Name), head.All(l, x.Name)) {
			t.Errorf("Drop(%s, %s) = %s: %q changed", brief(l), brief(names), brief(got), x.Name)
		}
	}
	if again := head.Drop(got, names...); !head.Same(again, got) {
		t.Errorf("Drop(%s, %s) = %s, done twice %s", brief(l), brief(names), brief(got), brief(again))
	}
}

// The chapter's section "Examples".
func TestExample(t *testing.T) {
	if s, is := head.Get(fields("a", "1", "A", "2"), "a"); s != "1, 2" || !is {
		t.Errorf("Get = %q, %v", s, is)
	}
}

// P13.1: each byte alone, ahead, within and behind.
func TestNameOfEachByte(t *testing.T) {
	if head.Name("") {
		t.Error("the empty text is a name")
	}
	for n := range 256 {
		c := string([]byte{byte(n)})
		want := strings.Contains(letters+digits+signs, c)
		for _, s := range []string{c, c + "a", "a" + c, "a" + c + "b", c + c, c + "9-", "~" + c + "!", "Content-Type" + c, strings.Repeat("x", 300) + c + "x"} {
			if got := head.Name(s); got != want {
				t.Errorf("Name(%q) = %v, want %v", s, got, want)
			}
			checkText(t, s)
		}
	}
}

// P13.1
func TestName(t *testing.T) {
	for s, want := range map[string]bool{
		"": false, " ": false, "\t": false, ":": false, "\x00": false,
		"a": true, "Z": true, "0": true, "-": true, "~": true, signs: true, letters: true, digits: true,
		"Content-Type": true, "content-type": true, "X_1": true, "1": true, "--": true,
		"Content-Type:": false, " Content-Type": false, "Content-Type ": false, "Content Type": false, "a\tb": false, "a\r\n": false, "\r\na": false,
		"(a)": false, "a,b": false, "a/b": false, "a;b": false, "a<b": false, "a=b": false, "a>b": false, "a?b": false, "a@b": false, "[a]": false, "a\\b": false, "{a}": false, "\"a\"": false, "a\x7f": false,
		"é": false, "a\xc3\xa9": false, "a\x80": false, "\xff": false, "\xe2\x84\xaa": false, // no letters but ascii's
	} {
		if got := head.Name(s); got != want {
			t.Errorf("Name(%q) = %v, want %v", s, got, want)
		}
		checkText(t, s)
	}
}

// P13.1: each byte alone, ahead, within and behind.
func TestValueOfEachByte(t *testing.T) {
	if !head.Value("") {
		t.Error("the empty text is no value")
	}
	for n := range 256 {
		c := string([]byte{byte(n)})
		within := n != 0 && n != 10 && n != 13
		atEnd := within && n != 9 && n != 32
		for _, s := range []string{c, c + "a", "a" + c, c + "a" + c, c + c, c + " a", "a\t" + c, strings.Repeat("x", 300) + c} {
			if got := head.Value(s); got != atEnd {
				t.Errorf("Value(%q) = %v, want %v", s, got, atEnd)
			}
			checkText(t, s)
		}
		for _, s := range []string{"a" + c + "b", "a" + c + c + "b", "a " + c + "\tb", "\xff" + c + ",", strings.Repeat("x", 300) + c + "x"} {
			if got := head.Value(s); got != within {
				t.Errorf("Value(%q) = %v, want %v", s, got, within)
			}
			checkText(t, s)
		}
	}
}

// P13.1
func TestValue(t *testing.T) {
	for s, want := range map[string]bool{
		"": true, " ": false, "\t": false, " \t": false, "\t ": false, "  ": false,
		"a": true, "a b": true, "a  b": true, "a\tb": true, "a \t b": true,
		" a": false, "\ta": false, "  a": false, " \ta": false, "a ": false, "a\t": false, "a \t": false, " a ": false, "\ta\t": false, " a b": false, "a b\t": false,
		"a\x00b": false, "a\nb": false, "a\rb": false, "a\r\nb": false, "a\r\n b": false, "a\r\n": false, "\r": false, "\n": false, "\x00": false,
		"a:b": true, ":": true, "a, b": true, "\"a\"": true, "\x01": true, "\x0b": true, "\x0ca\x0b": true, "\x1f": true, "\x7f": true, "\x80": true, "\xff": true,
		"é": true, "\u00a0a\u0085": true, "\u2003": true, "\u2028": true, // blanks by Unicode alone
	} {
		if got := head.Value(s); got != want {
			t.Errorf("Value(%q) = %v, want %v", s, got, want)
		}
		checkText(t, s)
	}
}

// edges are the bytes at both ends of each range that a name has, those that a line and a value are told by, and some from 128 on.
const edges = "\x00\x01\x08\x09\x0a\x0b\x0c\x0d\x0e\x1f !\"#$%&'()*+,-./09:;<=>?@AZ[\\]^_`az{|}~\x7f\x80\x85\xa0\xc2\xc3\xff"

// P13.1: all texts of two and three of the edges.
func TestTexts(t *testing.T) {
	for _, a := range []byte(edges) {
		for _, b := range []byte(edges) {
			checkText(t, string([]byte{a, b}))
			for _, c := range []byte(edges) {
				checkText(t, string([]byte{a, b, c}))
			}
		}
	}
}

// P13.1
func TestSame(t *testing.T) {
	for _, x := range []struct {
		a, b []api.Field
		same bool
	}{
		{nil, nil, true}, {nil, []api.Field{}, true}, {[]api.Field{}, []api.Field{}, true}, {make([]api.Field, 0, 3), nil, true}, {fields("a", "1")[:0], nil, true},
		{nil, fields("", ""), false}, {[]api.Field{}, fields("a", "1"), false}, {fields("", ""), fields("", "", "", ""), false},
		{fields("a", "1"), fields("a", "1"), true}, {fields("", ""), []api.Field{{}}, true}, {fields("a b", "\r"), fields("a b", "\r"), true},
		{fields("a", "1"), fields("b", "1"), false}, {fields("a", "1"), fields("a", "2"), false},
		{fields("a", "x"), fields("A", "x"), false}, {fields("a", "x"), fields("a", "X"), false}, {fields("Content-Type", ""), fields("content-type", ""), false},
		{fields("a", "1"), fields("a", ""), false}, {fields("a", "1"), fields("", "1"), false}, {fields("a", "1"), fields("1", "a"), false},
		{fields("a", "1"), fields("a", "1 "), false}, {fields("a", "1"), fields("a", " 1"), false}, {fields("a", "1"), fields("a", "1\x00"), false}, {fields("a", "1"), fields("a ", "1"), false},
		{fields("a", "bc"), fields("ab", "c"), false}, {fields("ab", ""), fields("", "ab"), false}, {fields("a", "", "", "b"), fields("a", "b", "", ""), false},
		{fields("a", "1", "b", "2"), fields("a", "1", "b", "2"), true}, {fields("a", "1", "b", "2"), fields("b", "2", "a", "1"), false}, {fields("a", "1", "a", "2"), fields("a", "2", "a", "1"), false}, {fields("a", "1", "b", "2"), fields("a", "2", "b", "1"), false},
		{fields("a", "1", "b", "2"), fields("a", "1"), false}, {fields("a", "1", "b", "2"), fields("b", "2"), false}, {fields("a", "1", "a", "1"), fields("a", "1"), false}, {fields("a", "1", "a", "2"), fields("a", "1, 2"), false},
		{fields("a", "1", "a", "1", "a", "1"), fields("a", "1", "a", "1"), false}, {fields("a", "1", "b", "2", "c", "3"), fields("a", "1", "c", "3", "b", "2"), false},
		{fields("a", "\xe9"), fields("a", "\xc3\xa9"), false}, {fields("a", "\xff"), fields("a", "\xfe"), false}, {fields("\xff", ""), fields("\xff", ""), true},
	} {
		if head.Same(x.a, x.b) != x.same || head.Same(x.b, x.a) != x.same {
			t.Errorf("Same(%s, %s) is not %v both ways", brief(x.a), brief(x.b), x.same)
		}
		checkSame(t, x.a, x.b)
	}
}

// changed are all texts that differ from one in one byte, or by one more or less.
func changed(s string) []string {
	var all []string
	for i := range len(s) {
		all = append(all, s[:i]+s[i+1:])
		for _, by := range []byte{1, 32, 128} {
			b := []byte(s)
			b[i] ^= by
			all = append(all, string(b))
		}
	}
	for i := range len(s) + 1 {
		all = append(all, s[:i]+"\x00"+s[i:], s[:i]+" "+s[i:])
	}
	return all
}

// P13.1: fields that differ in one byte of one name or one value.
func TestSameOfOneByteChanged(t *testing.T) {
	l := fields("Accept", "a/b", "X", "", "", "y", "accept", "A/b")
	for i := range l {
		for _, s := range changed(l[i].Name) {
			other := slices.Clone(l)
			other[i].Name = s
			checkSame(t, l, other)
			if head.Same(l, other) {
				t.Errorf("Same(%s, %s)", brief(l), brief(other))
			}
		}
		for _, s := range changed(l[i].Value) {
			other := slices.Clone(l)
			other[i].Value = s
			checkSame(t, l, other)
			if head.Same(l, other) {
				t.Errorf("Same(%s, %s)", brief(l), brief(other))
			}
		}
		checkSame(t, l, l[:i])
		checkSame(t, l, l[i:])
		checkSame(t, l, slices.Delete(slices.Clone(l), i, i+1))
		checkSame(t, l, slices.Insert(slices.Clone(l), i, l[i]))
	}
}

// P13.2
func TestParse(t *testing.T) {
	for raw, want := range map[string][]api.Field{
		"":                                    nil,
		"a:b\r\n":                             fields("a", "b"),
		"a: b\r\n":                            fields("a", "b"),
		"Location: /x\r\nSet-Cookie: c=d\r\n": fields("Location", "/x", "Set-Cookie", "c=d"),
		"a:1\r\nA:2\r\na:3\r\n":               fields("a", "1", "A", "2", "a", "3"),
		"a:1\r\na:1\r\n":                      fields("a", "1", "a", "1"),
		"b:2\r\na:1\r\nc:3\r\n":               fields("b", "2", "a", "1", "c", "3"),
		"a:\r\n":                              fields("a", ""),
		"a: \r\n":                             fields("a", ""),
		"a:\t\r\n":                            fields("a", ""),
		"a: \t \t\r\n":                        fields("a", ""),
		"a:\r\nb:\r\n":                        fields("a", "", "b", ""),
		"a::\r\n":                             fields("a", ":"),
		"a:b:c\r\n":                           fields("a", "b:c"),
		"http://a\r\n":                        fields("http", "//a"),
		"a: : \r\n":                           fields("a", ":"),
		"a::: b\r\n":                          fields("a", ":: b"),
		"a:b: c:\r\n":                         fields("a", "b: c:"),
		"a:\tb\t\r\n":                         fields("a", "b"),
		"a: \t b\t  \r\n":                     fields("a", "b"),
		"a:  b  c\t\td  \r\n":                 fields("a", "b  c\t\td"),
		"a:b \t c\r\n":                        fields("a", "b \t c"),
		"a:\x01\x0b\x0c\x7f\r\n":              fields("a", "\x01\x0b\x0c\x7f"),
		"a:\xe9\x80\xff\r\n":                  fields("a", "\xe9\x80\xff"),
		"a:\u00a0b\u0085\r\n":                 fields("a", "\u00a0b\u0085"),
		"a:\x0b b \x0c\r\n":                   fields("a", "\x0b b \x0c"),
		signs + ":" + signs + "\r\n":          fields(signs, signs),
		letters + digits + ":x\r\n":           fields(letters+digits, "x"),
		"a:b, c\r\n":                          fields("a", "b, c"),
		"a:\"b\\\r\n":                         fields("a", "\"b\\"),
	} {
		if got, is := head.Parse(raw); !is || !equal(got, want) {
			t.Errorf("Parse(%q) = %s, %v, want %s", raw, brief(got), is, brief(want))
		}
		checkParse(t, raw)
	}
}

// P13.2: what is none, alone, and with lines ahead and behind.
func TestParseOfNone(t *testing.T) {
	for _, raw := range []string{
		"a", "a:", "a:b", "a: b ", ":", " ", "\t", "\x00", // no end
		"a:b\n", "a:b\r", "a:b\n\r", "a:b\r\r", "a:b\n\n", "\n", "\r", // other ends
		"a:b\r\nc", "a:b\r\nc:", "a:b\r\nc:d", "a:b\r\nc:d\n", "a:b\r\nc:d\r", "a:b\r\n ", "a:b\r\n:", "a:b\r\n\n", "a:b\r\n\r", // the last one
		"a\r\n", "a b\r\n", "a=b\r\n", "a;b\r\n", " \r\n", // no colon
		"\r\n", "\r\n\r\n", "a:b\r\n\r\n", "\r\na:b\r\n", "a:b\r\n\r\nc:d\r\n", // nothing at all
		":\r\n", ":b\r\n", " :b\r\n", ": b\r\n", "::\r\n", "::b\r\n", // no name
		"a :b\r\n", "a\t:b\r\n", " a:b\r\n", "\ta:b\r\n", "a b:c\r\n", "a,b:c\r\n", "(:b\r\n", "\"a\":b\r\n", "a/b:c\r\n", "a\x00:b\r\n", "a\x7f:b\r\n", "\xe9:b\r\n", "é:b\r\n", "a@:b\r\n", // names that are none
		"a:b\r\n c:d\r\n", "a:b\r\n\tc\r\n", "a:b\r\n \r\n", "a:b\r\n c\r\n", // what goes on on the next line
		"a:\x00\r\n", "a:b\x00c\r\n", "a: \x00b\r\n", "a:b\x00 \r\n", // values that are none
		"a:b\rc\r\n", "a:b\nc\r\n", "a:\rb\r\n", "a:\nb\r\n", "a:b\r\r\n", "a:b\n\r\n", "a:\r\r\n", "a:\n\r\n", "a: \rb\r\n", "a:b\n \r\n", "a:b\r \r\n", "a:b\nc:d\r\n", "a:b\rc:d\r\n", "a:b\n\rc:d\r\n",
		"a\r:b\r\n", "a\n:b\r\n", "\ra:b\r\n", "\na:b\r\n", "a:b\r\n\nc:d\r\n", "a:b\r\n\rc:d\r\n",
	} {
		for _, ahead := range []string{"", "x:y\r\n", "x:y\r\nX: z\r\n"} {
			if got, is := head.Parse(ahead + raw); is || len(got) != 0 {
				t.Errorf("Parse(%q) = %s, %v", ahead+raw, brief(got), is)
			}
			checkParse(t, ahead+raw)
			checkParse(t, ahead+raw+"x:y\r\n")
			checkParse(t, ahead+raw+"\r\n")
		}
		if strings.HasSuffix(raw, "\r\n") {
			if got, is := head.Parse(raw + "x:y\r\n"); is || len(got) != 0 {
				t.Errorf("Parse(%q) = %s, %v", raw+"x:y\r\n", brief(got), is)
			}
		}
	}
}

// P13.2: each byte at each place of a line.
func TestParseOfEachByte(t *testing.T) {
	for n := range 256 {
		c := string([]byte{byte(n)})
		for _, raw := range []string{c, c + "a:b\r\n", "a" + c + ":b\r\n", "a" + c + "b:c\r\n", c + ":b\r\n", "a" + c + "b\r\n", "a:" + c + "\r\n", "a:" + c + "b\r\n", "a:b" + c + "\r\n", "a:b" + c + "c\r\n", "a: " + c + "b\r\n", "a:b" + c + " \r\n", "a:b\r" + c, "a:b" + c + "\n", "a:b\r" + c + "\n", "a:b\r\n" + c, "a:b\r\n" + c + "c:d\r\n", "a:b\r\n" + c + "\r\n", "a:b\r\nc" + c + ":d\r\n", "a:b\r\nc:" + c + "\r\n"} {
			checkParse(t, raw)
		}
		for _, x := range []struct {
			raw string
			is  bool
		}{
			{c + ":b\r\n", wantName(c)},
			{"a" + c + ":b\r\n", n == ':' || wantName(c)},
			{"a:" + c + "\r\n", n != 0 && n != 10 && n != 13},
			{"a:b" + c + "d\r\n", n != 0 && n != 10 && n != 13},
		} {
			if _, is := head.Parse(x.raw); is != x.is {
				t.Errorf("Parse(%q) = %v, want %v", x.raw, is, x.is)
			}
		}
	}
}

// P13.2: all texts of up to six of some bytes, as they are, and with lines around.
func TestParseOfTexts(t *testing.T) {
	some := []string{"a", "B", ":", " ", "\t", "\r", "\n", "\x00"}
	level := []string{""}
	for range 6 {
		var next []string
		for _, s := range level {
			for _, c := range some {
				next = append(next, s+c)
			}
		}
		level = next
		for _, s := range level {
			if t.Failed() {
				return // the others would fill the screen
			}
			checkParse(t, s)
			if len(s) < 5 {
				checkParse(t, "a:"+s+"\r\n")
				checkParse(t, "a:b\r\n"+s+"c:d\r\n")
				checkParse(t, "a:b"+s+"\r\nc:d\r\n")
				checkParse(t, s+":\r\n")
			}
		}
	}
}

// P13.2: lines put together of parts: each line, and each two, are told as they were put.
func TestParseOfParts(t *testing.T) {
	ends := []string{"", " ", "\t", " \t", "\t  \t"}
	var lines []string
	var told []api.Field
	for _, name := range []string{"a", "A", "Content-Type", signs} {
		for _, value := range []string{"", "b", ":", "b c", "b\t,c", "text/html; a=\"b\"", "\xe9"} {
			for _, ahead := range ends {
				for _, behind := range ends {
					lines = append(lines, name+":"+ahead+value+behind+"\r\n")
					told = append(told, field(name, value))
				}
			}
		}
	}
	for i := range lines {
		if got, is := head.Parse(lines[i]); !is || !equal(got, told[i:i+1]) {
			t.Errorf("Parse(%q) = %s, %v", lines[i], brief(got), is)
		}
		for j := range lines {
			if got, is := head.Parse(lines[i] + lines[j]); !is || !equal(got, []api.Field{told[i], told[j]}) {
				t.Errorf("Parse(%q) = %s, %v", lines[i]+lines[j], brief(got), is)
			}
		}
	}
	if got, is := head.Parse(strings.Join(lines, "")); !is || !equal(got, told) {
		t.Errorf("Parse of all lines = %s, %v", brief(got), is)
	}
}

// P13.3
func TestAllAndGet(t *testing.T) {
	l := fields("a", "1", "B", "2", "A", "3", "c", "", "b", "", "a", "1", "d", "x, y", "D", "z", "e", "", "E", "")
	for _, x := range []struct {
		name string
		all  []string
		get  string
	}{
		{"a", []string{"1", "3", "1"}, "1, 3, 1"}, {"A", []string{"1", "3", "1"}, "1, 3, 1"},
		{"b", []string{"2", ""}, "2, "}, {"B", []string{"2", ""}, "2, "},
		{"c", []string{""}, ""}, {"C", []string{""}, ""},
		{"d", []string{"x, y", "z"}, "x, y, z"}, {"e", []string{"", ""}, ", "},
	} {
		if got := head.All(l, x.name); !slices.Equal(got, x.all) {
			t.Errorf("All of %q = %q, want %q", x.name, got, x.all)
		}
		if got, is := head.Get(l, x.name); got != x.get || !is {
			t.Errorf("Get of %q = %q, %v, want %q", x.name, got, is, x.get)
		}
		checkGot(t, l, x.name)
	}
	for _, name := range []string{"", "x", "aa", "a ", " a", "a:", "ab", "1", "\x00", "\xff", "é"} {
		if got := head.All(l, name); len(got) != 0 {
			t.Errorf("All of %q = %q", name, got)
		}
		if got, is := head.Get(l, name); got != "" || is {
			t.Errorf("Get of %q = %q, %v", name, got, is)
		}
		for _, none := range [][]api.Field{nil, {}, l[:0]} {
			if got, is := head.Get(none, name); got != "" || is || len(head.All(none, name)) != 0 {
				t.Errorf("Get of nothing and %q = %q, %v", name, got, is)
			}
		}
	}
}

// P13.3, P13.4: names are the same by letters alone, and are any texts.
func TestNamesThatAreTheSame(t *testing.T) {
	for _, x := range []struct {
		a, b string
		same bool
	}{
		{"a", "A", true}, {"Content-Type", "cONTENT-tYPE", true}, {"x-1", "X-1", true}, {"z", "Z", true}, {"", "", true}, {"a b", "A B", true}, {"\xff", "\xff", true}, {":", ":", true}, {"é", "é", true},
		{"a", "b", false}, {"a", "aa", false}, {"a", "", false}, {"a", " a", false}, {"a", "a ", false}, {"a-b", "a_b", false}, {"^", "~", false}, {"@", "`", false}, {"[", "{", false}, {"!", "\x01", false}, {"0", "P", false},
		{"é", "É", false}, {"k", "\u212a", false}, {"s", "\u017f", false}, {"\xc1", "\xe1", false}, {"\xff", "\xfe", false}, {"\xff", "\ufffd", false}, // alike by Unicode alone
	} {
		for _, y := range [][2]string{{x.a, x.b}, {x.b, x.a}} {
			l := fields(y[0], "1")
			if _, is := head.Get(l, y[1]); is != x.same {
				t.Errorf("Get of %q and %q: %v", y[0], y[1], is)
			}
			if got := len(head.Set(l, y[1], "2")); (got == 1) != x.same {
				t.Errorf("Set of %q and %q has %d fields", y[0], y[1], got)
			}
			if got := len(head.Drop(l, y[1])); (got == 0) != x.same {
				t.Errorf("Drop of %q and %q has %d fields", y[0], y[1], got)
			}
			checkGot(t, l, y[1])
			checkSet(t, l, y[1], "2")
			checkDrop(t, l, y[1])
		}
	}
	for a := range 256 {
		for b := range 256 {
			x, y := string([]byte{'n', byte(a)}), string([]byte{'N', byte(b)})
			checkGot(t, fields(x, "1"), y)
			checkDrop(t, fields(x, "1"), y)
		}
	}
}

// P13.4, P13.5
func TestSet(t *testing.T) {
	l := fields("a", "1", "B", "2", "A", "3", "c", "", "b", "4", "A", "5")
	for _, x := range []struct {
		l           []api.Field
		name, value string
		want        []api.Field
	}{
		{nil, "x", "9", fields("x", "9")}, {[]api.Field{}, "x", "", fields("x", "")}, {l[:0], "", "", fields("", "")},
		{l, "x", "9", append(slices.Clone(l), field("x", "9"))}, {l, "", "9", append(slices.Clone(l), field("", "9"))}, {l, "aa", "", append(slices.Clone(l), field("aa", ""))},
		{l, "c", "9", fields("a", "1", "B", "2", "A", "3", "c", "9", "b", "4", "A", "5")}, {l, "C", "", fields("a", "1", "B", "2", "A", "3", "C", "", "b", "4", "A", "5")},
		{l, "a", "9", fields("a", "9", "B", "2", "c", "", "b", "4")}, {l, "A", "9", fields("A", "9", "B", "2", "c", "", "b", "4")}, {l, "A", "1", fields("A", "1", "B", "2", "c", "", "b", "4")},
		{l, "b", "9", fields("a", "1", "b", "9", "A", "3", "c", "", "A", "5")}, {l, "B", "4", fields("a", "1", "B", "4", "A", "3", "c", "", "A", "5")}, {l, "b", "", fields("a", "1", "b", "", "A", "3", "c", "", "A", "5")},
		{fields("a", "1"), "a", "1", fields("a", "1")}, {fields("a", "1"), "A", "1", fields("A", "1")}, {fields("a", "1", "a", "1"), "a", "1", fields("a", "1")}, {fields("a", "1", "a", "2", "A", "3"), "A", "", fields("A", "")},
		{fields("a", "1"), "b c", " \r\n\x00", fields("a", "1", "b c", " \r\n\x00")}, {fields("a b", "1", "A B", "2"), "a B", "\xff", fields("a B", "\xff")}, {fields("", "1", "a", "2", "", "3"), "", "4", fields("", "4", "a", "2")},
	} {
		if got := head.Set(x.l, x.name, x.value); !equal(got, x.want) {
			t.Errorf("Set(%s, %q, %q) = %s, want %s", brief(x.l), x.name, x.value, brief(got), brief(x.want))
		}
		checkSet(t, x.l, x.name, x.value)
	}
}

// P13.4, P13.5
func TestDrop(t *testing.T) {
	l := fields("a", "1", "B", "2", "A", "3", "c", "", "b", "4", "", "5", "d e", "6")
	for _, x := range []struct {
		names []string
		want  []api.Field
	}{
		{nil, l}, {[]string{}, l}, {[]string{"x"}, l}, {[]string{"x", "aa", " a", "a ", "\xff"}, l},
		{[]string{"a"}, fields("B", "2", "c", "", "b", "4", "", "5", "d e", "6")}, {[]string{"A"}, fields("B", "2", "c", "", "b", "4", "", "5", "d e", "6")},
		{[]string{"a", "a"}, fields("B", "2", "c", "", "b", "4", "", "5", "d e", "6")}, {[]string{"a", "A"}, fields("B", "2", "c", "", "b", "4", "", "5", "d e", "6")}, {[]string{"x", "a", "x"}, fields("B", "2", "c", "", "b", "4", "", "5", "d e", "6")},
		{[]string{"b", "C"}, fields("a", "1", "A", "3", "", "5", "d e", "6")}, {[]string{"C", "b"}, fields("a", "1", "A", "3", "", "5", "d e", "6")},
		{[]string{""}, fields("a", "1", "B", "2", "A", "3", "c", "", "b", "4", "d e", "6")}, {[]string{"D E"}, fields("a", "1", "B", "2", "A", "3", "c", "", "b", "4", "", "5")},
		{[]string{"a", "b", "c", "", "d e"}, nil}, {[]string{"D e", "", "C", "B", "A", "x", "A"}, nil},
	} {
		if got := head.Drop(l, x.names...); !equal(got, x.want) {
			t.Errorf("Drop(%s, %q) = %s, want %s", brief(l), x.names, brief(got), brief(x.want))
		}
		checkDrop(t, l, x.names...)
		checkDrop(t, nil, x.names...)
		checkDrop(t, []api.Field{}, x.names...)
	}
	if got := head.Drop(fields("Authorization", "x", "a", "1", "AUTHORIZATION", "y"), "authorization"); !equal(got, fields("a", "1")) {
		t.Errorf("Drop = %s", brief(got))
	}
	if got := head.Drop(fields("a", "1", "A", "2", "a", "3"), "a"); len(got) != 0 {
		t.Errorf("Drop of all = %s", brief(got))
	}
}

// P13.3 to P13.5: all lists of up to four of some fields.
func TestLists(t *testing.T) {
	some := fields("a", "1", "A", "", "b", "2", "aa", "1", "", "x")
	names := []string{"a", "A", "b", "B", "aA", "", "c"}
	level := [][]api.Field{nil}
	for range 5 {
		var next [][]api.Field
		for _, l := range level {
			if t.Failed() {
				return // the others would fill the screen
			}
			for _, name := range names {
				checkGot(t, l, name)
				checkSet(t, l, name, "1")
				checkSet(t, l, name, "")
				checkDrop(t, l, name)
				for _, other := range names {
					checkDrop(t, l, name, other)
				}
			}
			checkDrop(t, l)
			checkDrop(t, l, names...)
			checkSame(t, l, head.Drop(l))
			checkSame(t, l, head.Drop(l, "a"))
			checkSame(t, l, head.Set(l, "b", "2"))
			for _, x := range some {
				next = append(next, append(slices.Clone(l), x))
			}
		}
		level = next
	}
}

// P13.5: of two names, what is done to one changes nothing of the other, and the order of both does not matter.
func TestTwo(t *testing.T) {
	l := fields("a", "1", "b", "2", "A", "3", "c", "4", "B", "5")
	for _, one := range []string{"a", "B", "c", "x", ""} {
		for _, two := range []string{"A", "b", "C", "y", "xx"} {
			if low(one) == low(two) {
				continue
			}
			set := head.Set(head.Set(l, one, "7"), two, "8")
			if s, is := head.Get(set, one); s != "7" || !is {
				t.Errorf("%q is %q, %v", one, s, is)
			}
			if s, is := head.Get(set, two); s != "8" || !is {
				t.Errorf("%q is %q, %v", two, s, is)
			}
			if !head.Same(head.Drop(head.Drop(l, one), two), head.Drop(l, two, one)) {
				t.Errorf("%q and %q are dropped otherwise together", one, two)
			}
			if !head.Same(head.Drop(head.Set(l, one, "7"), two), head.Set(head.Drop(l, two), one, "7")) {
				t.Errorf("%q is set otherwise behind a drop of %q", one, two)
			}
		}
	}
}

// P1: long texts and lists.
func TestLong(t *testing.T) {
	const many = 1 << 14
	for _, c := range []string{"a", ":", " ", "\t", "\r", "\n", "\r\n", "\x00", "a:b\r\n", "a:\r\n", "a: b", ":\r\n", "a\r\n", "\xff", "é", "\r\n "} {
		s := strings.Repeat(c, many)
		checkText(t, s)
		for _, raw := range []string{s, "a:" + s, "a:" + s + "\r\n", s + ":b\r\n", s + "\r\n", "a:b" + s + "c\r\n", "a:b\r\n" + s, s + "a:b\r\n"} {
			checkParse(t, raw)
		}
		checkSet(t, fields(s, s), s, s)
		checkDrop(t, fields(s, s), s, "a")
	}
	var l []api.Field
	var names []string
	for i := range many {
		l = append(l, field(fmt.Sprint("a", i), fmt.Sprint(i)), field("A", fmt.Sprint(i)))
		names = append(names, fmt.Sprint("A", i))
	}
	checkGot(t, l[:1000], "a")
	checkSet(t, l, "a", "x")
	checkSet(t, l, "b", "x")
	checkSame(t, l, head.Drop(l))
	if got := head.Drop(l, names...); len(got) != many {
		t.Errorf("Drop of %d names has %d fields", many, len(got))
	}
	if got := head.Drop(l, append(names, "a")...); len(got) != 0 {
		t.Errorf("Drop of all has %d fields", len(got))
	}
	if got := head.All(l, "a"); len(got) != many {
		t.Errorf("All of %d has %d", many, len(got))
	}
}

// shares tells whether two texts have memory in common.
func shares(a, b string) bool {
	if a == "" || b == "" {
		return false
	}
	from, start := uintptr(unsafe.Pointer(unsafe.StringData(a))), uintptr(unsafe.Pointer(unsafe.StringData(b)))
	return from < start+uintptr(len(b)) && start < from+uintptr(len(a))
}

// texts are those of a list of fields.
func texts(l []api.Field) []string {
	var out []string
	for _, x := range l {
		out = append(out, x.Name, x.Value)
	}
	return out
}

// checkOwn is R3: no text of an answer lies in what was handed in, or in another text of an answer.
func checkOwn(t *testing.T, what string, answered, handed []string) {
	t.Helper()
	for i, s := range answered {
		for _, s2 := range append(slices.Clone(handed), answered[:i]...) {
			if shares(s, s2) {
				t.Errorf("%s: %q shares memory with %q", what, s, s2)
			}
		}
	}
}

// freshly are fields of texts of their own.
func freshly(l []api.Field) []api.Field {
	out := make([]api.Field, 0, len(l)+4)
	for _, x := range l {
		out = append(out, field(strings.Clone(x.Name), strings.Clone(x.Value)))
	}
	return out
}

// R3
func TestOwn(t *testing.T) {
	raw := strings.Clone("Accept: one\r\nb-b:two\r\nACCEPT:three \r\n")
	l, is := head.Parse(raw)
	again, _ := head.Parse(raw)
	if !is || len(l) != 3 {
		t.Fatal(brief(l))
	}
	checkOwn(t, "Parse", texts(l), append(texts(again), raw))
	l = freshly(l)
	for _, name := range []string{strings.Clone("accept"), l[0].Name, l[1].Name, strings.Clone("nothing")} {
		value := strings.Clone("something")
		handed := append(texts(l), name, value)
		checkOwn(t, "All", head.All(l, name), handed)
		got, _ := head.Get(l, name)
		checkOwn(t, "Get", []string{got}, handed)
		checkOwn(t, "Set", texts(head.Set(l, name, value)), handed)
		checkOwn(t, "Set to a value of the list", texts(head.Set(l, name, l[1].Value)), handed)
		checkOwn(t, "Drop", texts(head.Drop(l, name)), handed)
		checkOwn(t, "Drop of none", texts(head.Drop(l)), handed)
	}
}

// spoil changes all of a list, and of its array beyond its length.
func spoil[T any](l []T, by T) {
	l = l[:cap(l)]
	for i := range l {
		l[i] = by
	}
}

// R3: what is handed in stays as it was, the array beyond its length, too, also when the answer is changed.
func TestHandedIn(t *testing.T) {
	all := fields("a", "1", "B", "2", "A", "3", "b", "4", "c", "5", "behind", "6", "further", "7")
	names := []string{"A", "c", "b", "behind", "x"}
	for n := range 6 {
		l, dropped := freshly(all), slices.Clone(names)
		for _, name := range []string{"a", "A", "b", "c", "x", "behind"} {
			spoil(head.Set(l[:n], name, "9"), field("!", "!"))
			spoil(head.All(l[:n], name), "!")
			spoil(head.Drop(l[:n], name), field("!", "!"))
			head.Get(l[:n], name)
			head.Same(l[:n], l)
		}
		for m := range 4 {
			spoil(head.Drop(l[:n], dropped[:m]...), field("!", "!"))
		}
		if !equal(l, all) || !slices.Equal(dropped, names) {
			t.Errorf("%s and %q became %s and %q", brief(all), names, brief(l), dropped)
		}
	}
}

// R3: later changes to what was handed in change nothing of what was answered.
func TestLaterChanges(t *testing.T) {
	all := fields("a", "1", "B", "2", "A", "3")
	for _, name := range []string{"a", "b", "x"} {
		l, names := freshly(all), []string{name}
		set, dropped, kept, values := head.Set(l, name, "9"), head.Drop(l, names...), head.Drop(l), head.All(l, name)
		spoil(l, field("!", "!"))
		spoil(names, "!")
		if !equal(set, wantSet(all, name, "9")) || !equal(dropped, wantDrop(all, name)) || !equal(kept, all) || !slices.Equal(values, wantAll(all, name)) {
			t.Errorf("%q: %s, %s, %s, %q", name, brief(set), brief(dropped), brief(kept), values)
		}
	}
}

// R5: what was asked before changes nothing.
func TestAskedAgain(t *testing.T) {
	l := fields("a", "1", "B", "2", "A", "3", "", "4")
	for range 3 {
		for _, raw := range []string{"a:b\r\n", "a:b", "", "A:\r\nb: c \r\n", "\r\n"} {
			checkParse(t, raw)
		}
		for _, name := range []string{"a", "b", "", "x"} {
			checkText(t, name)
			checkGot(t, l, name)
			checkSet(t, l, name, "9")
			checkDrop(t, l, name, "b")
		}
	}
}

// FuzzFields holds the promises against any texts and fields: its seeds run with the other tests.
func FuzzFields(f *testing.F) {
	f.Add("a: 1\r\nA:2\t\r\n", "a", "3", "b")
	f.Add("Location: /b\r\n", "location", "", "x")
	f.Add("", "", "", "")
	f.Add("a:b\r\n c\r\n", "a b", "\r\n", "a")
	f.Add("x:\r\ny::\r\nX:\xff\r\n", "X", " ", "Y")
	f.Fuzz(func(t *testing.T, raw, name, value, other string) {
		for _, s := range []string{raw, name, value, other} {
			checkText(t, s)
			checkParse(t, s)
		}
		checkParse(t, name+":"+value+"\r\n"+raw)
		told, _ := head.Parse(raw)
		for _, l := range [][]api.Field{told, fields(name, value, other, raw), append(told, fields(other, "x", name, "", low(name), "y")...)} {
			for _, s := range []string{name, low(name), other, raw} {
				checkGot(t, l, s)
				checkSet(t, l, s, value)
				checkDrop(t, l, s, other)
				checkSame(t, l, head.Drop(l, s))
			}
			checkDrop(t, l)
		}
	})
}

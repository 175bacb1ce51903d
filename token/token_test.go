package token_test

import (
	"fmt"
	"math"
	"slices"
	"strings"
	"testing"
	"unsafe"

	"postmark/api"
	"postmark/token"
)

// wantNames is the chapter's section "Words", in the order of the policies' numbers.
var wantNames = []string{"", "no-referrer", "no-referrer-when-downgrade", "same-origin", "origin", "strict-origin", "origin-when-cross-origin", "strict-origin-when-cross-origin", "unsafe-url"}

// low is ascii's Lower.
func low(s string) string {
	b := []byte(s)
	for i, c := range b {
		if c >= 'A' && c <= 'Z' {
			b[i] += 32
		}
	}
	return string(b)
}

// wantName is the first half of P14.1.
func wantName(p int) string {
	for q, name := range wantNames {
		if q == p {
			return name
		}
	}
	return ""
}

// wantPolicy is the other half.
func wantPolicy(s string) int {
	for p, name := range wantNames {
		if p > 0 && low(s) == name {
			return p
		}
	}
	return api.PoNone
}

func blank(c byte) bool { return c == 32 || c == 9 }

// wantSplit is the first half of P14.2, byte by byte.
func wantSplit(s string) []string {
	var out []string
	for {
		end := 0
		for end < len(s) && s[end] != ',' {
			end++
		}
		from, to := 0, end
		for from < to && blank(s[from]) {
			from++
		}
		for from < to && blank(s[to-1]) {
			to--
		}
		out = append(out, s[from:to])
		if end == len(s) {
			return out
		}
		s = s[end+1:]
	}
}

// wantLast is the other half, from the first text on.
func wantLast(s string) int {
	last := api.PoNone
	for _, text := range wantSplit(s) {
		if p := wantPolicy(text); p != api.PoNone {
			last = p
		}
	}
	return last
}

// wantTold is P14.3, field by field.
func wantTold(l []api.Field) int {
	told := api.PoNone
	for _, x := range l {
		if p := wantLast(x.Value); low(x.Name) == "referrer-policy" && p != api.PoNone {
			told = p
		}
	}
	return told
}

func field(name, value string) api.Field { return api.Field{Name: name, Value: value} }

// values are fields that tell policies, in several letters.
func values(texts ...string) []api.Field {
	var out []api.Field
	for i, s := range texts {
		out = append(out, field([]string{"Referrer-Policy", "referrer-policy", "REFERRER-POLICY"}[i%3], s))
	}
	return out
}

// brief is what a test tells of a text, or a list, which may be long.
func brief(x any) string {
	s := fmt.Sprintf("%q", x)
	return s[:min(len(s), 300)]
}

// checkText is P14.1 and P14.2 of a text.
func checkText(t *testing.T, s string) {
	t.Helper()
	if got, want := token.Policy(s), wantPolicy(s); got != want {
		t.Errorf("Policy(%s) = %d, want %d", brief(s), got, want)
	}
	if got, want := token.Split(s), wantSplit(s); !slices.Equal(got, want) {
		t.Errorf("Split(%s) = %s, want %s", brief(s), brief(got), brief(want))
	}
	if got, want := token.Last(s), wantLast(s); got != want {
		t.Errorf("Last(%s) = %d, want %d", brief(s), got, want)
	}
}

// checkFields is P14.3.
func checkFields(t *testing.T, l []api.Field) {
	t.Helper()
	if got, want := token.Told(l), wantTold(l); got != want {
		t.Errorf("Told(%s) = %d, want %d", brief(l), got, want)
	}
}

// mixed are some ways to write a name in capital and small letters.
func mixed(name string) []string {
	all := []string{name, strings.ToUpper(name)}
	odd := []byte(name)
	for i := range odd {
		one := []byte(name)
		if one[i] >= 'a' {
			one[i] -= 32
			if i%2 == 1 {
				odd[i] -= 32
			}
		}
		all = append(all, string(one))
	}
	return append(all, string(odd))
}

// others are texts that name no policy, as they are or with blanks at their ends.
var others = []string{
	"", " ", "\t", "x", "else", "something", "never", "none", "no", "null", "default", "always", "never-referrer", "origin-", "-origin", "origins", "rigin", "origi", "no-referrer-when", "when-downgrade",
	"no-referer", "no referrer", "no_referrer", "noreferrer", "same origin", "same-origin same-origin", "origin origin", "strict-origin no-referrer", "origin;", "origin; x=y", "\"origin\"", "'origin'", "origin=", "origin\n", "\rorigin", "origin\r\n", "\x00origin", "origin\x00", "\x0borigin", "origin\x0c", "o rigin", "unsafe-url.", "unsafe_url", "unsafe-uri", "unsafe url", "UNSAFE-URLS",
	"0", "1", "4", "8", "-1", "PoSame", "%6frigin", "origin\x80", "\xfforigin", "orig\u0131n", "or\u0130gin", "\u017fame-origin", "strict\u2010origin", "\u00a0origin", "origin\u0085", "or\u200bigin", "оrigin", // alike by Unicode alone
}

// The chapter's section "Examples".
func TestExample(t *testing.T) {
	if got := token.Last("origin, something, same-origin, else"); got != api.PoSame {
		t.Errorf("Last = %d", got)
	}
}

// P14.1
func TestNameAndPolicy(t *testing.T) {
	for p, name := range map[int]string{
		api.PoNone: "", api.PoNever: "no-referrer", api.PoDowngrade: "no-referrer-when-downgrade", api.PoSame: "same-origin", api.PoOrigin: "origin", api.PoStrict: "strict-origin", api.PoCross: "origin-when-cross-origin", api.PoStrictCross: "strict-origin-when-cross-origin", api.PoAll: "unsafe-url",
	} {
		if got := token.Name(p); got != name {
			t.Errorf("Name(%d) = %q, want %q", p, got, name)
		}
		if got := token.Policy(name); got != p {
			t.Errorf("Policy(%q) = %d, want %d", name, got, p)
		}
	}
	if len(wantNames) != api.Policies {
		t.Errorf("%d names, %d policies", len(wantNames), api.Policies)
	}
}

// P14.1: numbers that are no policies, also such as are one in fewer bits.
func TestNameOfNumbers(t *testing.T) {
	for _, p := range []int{api.Policies, api.Policies + 1, -1, -2, -api.PoAll, -api.Policies, 1 << 40, -1 << 40, math.MaxInt, math.MaxInt - 1, math.MinInt, math.MinInt + 1, math.MaxInt32, math.MinInt32} {
		if got := token.Name(p); got != "" {
			t.Errorf("Name(%d) = %q", p, got)
		}
	}
	for p := -1000; p <= 1000; p++ {
		if got, want := token.Name(p), wantName(p); got != want {
			t.Errorf("Name(%d) = %q, want %q", p, got, want)
		}
	}
	for p := range api.Policies {
		for bits := 4; bits < 64; bits++ {
			for _, q := range []int{p + 1<<bits, p - 1<<bits, p | 1<<bits} {
				if got := token.Name(q); got != "" {
					t.Errorf("Name(%d) = %q", q, got)
				}
			}
		}
	}
}

// P14.1: names in small and capital letters.
func TestPolicyOfNames(t *testing.T) {
	for p := 1; p < api.Policies; p++ {
		for _, s := range mixed(wantNames[p]) {
			if got := token.Policy(s); got != p {
				t.Errorf("Policy(%q) = %d, want %d", s, got, p)
			}
			if got := token.Name(token.Policy(s)); got != wantNames[p] {
				t.Errorf("Name of Policy(%q) = %q", s, got)
			}
			if got := token.Last(s); got != p {
				t.Errorf("Last(%q) = %d, want %d", s, got, p)
			}
			if got := token.Told(values(s)); got != p {
				t.Errorf("Told of %q = %d, want %d", s, got, p)
			}
			checkText(t, s)
		}
	}
}

// P14.1: texts that are no names, some of them nearly.
func TestPolicyOfOthers(t *testing.T) {
	for _, s := range others {
		if got := token.Policy(s); got != api.PoNone {
			t.Errorf("Policy(%q) = %d", s, got)
		}
		if got := token.Last(s); got != api.PoNone {
			t.Errorf("Last(%q) = %d", s, got)
		}
		checkText(t, s)
	}
	for _, name := range wantNames[1:] {
		for _, s := range []string{name[1:], name[:len(name)-1], name[1 : len(name)-1], " " + name, name + " ", " " + name + " ", "\t" + name, name + "\t", "," + name, name + ",", name + "\n", "x" + name, name + "x", "-" + name, name + "-", name + "\x00", "\x00" + name, strings.ReplaceAll(name, "-", "_"), strings.ReplaceAll(name+"-", "-", " ")} {
			if wantPolicy(s) == api.PoNone && token.Policy(s) != api.PoNone {
				t.Errorf("Policy(%q) = %d", s, token.Policy(s))
			}
			checkText(t, s)
		}
		for _, other := range wantNames[1:] {
			for _, between := range []string{"", " ", "\t", ",", ", ", " , ", ";", "-", "\n", "\x00"} {
				s := name + between + other
				if got := token.Policy(s); got != api.PoNone {
					t.Errorf("Policy(%q) = %d", s, got)
				}
				checkText(t, s)
			}
		}
	}
}

// P14.1, P14.2: each byte at each place of each name: put in, or in place of the one that is there.
func TestEachByteInNames(t *testing.T) {
	for p := 1; p < api.Policies; p++ {
		name := wantNames[p]
		for n := range 256 {
			c := string([]byte{byte(n)})
			for i := range len(name) + 1 {
				s := name[:i] + c + name[i:]
				if got := token.Policy(s); got != api.PoNone {
					t.Errorf("Policy(%q) = %d", s, got)
				}
				checkText(t, s)
				if i < len(name) {
					checkText(t, name[:i]+c+name[i+1:])
				}
			}
		}
		for i := range name {
			checkText(t, name[:i]+name[i+1:])
			checkText(t, name[:i]+","+name[i:])
			checkText(t, name[:i])
			checkText(t, name[i+1:])
		}
	}
}

// P14.2
func TestSplit(t *testing.T) {
	for s, want := range map[string][]string{
		"":                      {""},
		",":                     {"", ""},
		",,":                    {"", "", ""},
		",,,,":                  {"", "", "", "", ""},
		"a":                     {"a"},
		"a,":                    {"a", ""},
		",a":                    {"", "a"},
		",a,":                   {"", "a", ""},
		"a,b":                   {"a", "b"},
		"b,a,b":                 {"b", "a", "b"},
		"a, b":                  {"a", "b"},
		"a ,b":                  {"a", "b"},
		" a,b ":                 {"a", "b"},
		"a,,b":                  {"a", "", "b"},
		"a, ,b":                 {"a", "", "b"},
		" ":                     {""},
		"\t":                    {""},
		" \t \t":                {""},
		" , ":                   {"", ""},
		"\t,\t":                 {"", ""},
		" \t a \t ,\t \tb\t":    {"a", "b"},
		"a b":                   {"a b"},
		"a\tb":                  {"a\tb"},
		"  a \t b  , c  d\t":    {"a \t b", "c  d"},
		"a;b":                   {"a;b"},
		"\"a,b\"":               {"\"a", "b\""},
		"A,b":                   {"A", "b"},
		"\ta\n,":                {"a\n", ""},
		"\n,\r\n":               {"\n", "\r\n"},
		"\x00a\x00,\x1f":        {"\x00a\x00", "\x1f"},
		"\x0b a \x0c":           {"\x0b a \x0c"},
		" \n a \r ":             {"\n a \r"},
		"\x7f,\x80,\xff":        {"\x7f", "\x80", "\xff"},
		"é,\xe9":                {"é", "\xe9"},
		"\u00a0a\u0085,\u2003":  {"\u00a0a\u0085", "\u2003"}, // blanks by Unicode alone
		"a\uff0cb\u060c":        {"a\uff0cb\u060c"},          // commas by Unicode alone
		"origin, same-origin":   {"origin", "same-origin"},
		"Origin,\tUNSAFE-URL\t": {"Origin", "UNSAFE-URL"},
	} {
		if got := token.Split(s); !slices.Equal(got, want) {
			t.Errorf("Split(%q) = %q, want %q", s, got, want)
		}
		checkText(t, s)
	}
}

// P14.2: each byte alone, at both ends, within, and beside commas, blanks and tabs.
func TestSplitOfEachByte(t *testing.T) {
	for n := range 256 {
		c := string([]byte{byte(n)})
		for _, s := range []string{c, c + c, c + "a", "a" + c, "a" + c + "b", c + "a" + c, c + " a \t" + c, " " + c + "a" + c + "\t", c + ",", "," + c, "," + c + ",", "a," + c + "b" + c + ",c", "a ," + c + ", b"} {
			checkText(t, s)
		}
		if n == ',' || n == 32 || n == 9 {
			continue
		}
		if got := token.Split(" " + c + "a" + c + "\t, " + c + "\t"); !slices.Equal(got, []string{c + "a" + c, c}) {
			t.Errorf("byte %d goes: %q", n, got)
		}
	}
}

// P14.2: all texts of up to six of some pieces.
func TestTexts(t *testing.T) {
	level := []string{""}
	for range 6 {
		var next []string
		for _, s := range level {
			for _, c := range []string{"origin", "same-", ",", " ", "\t", "\n", "\xff"} {
				next = append(next, s+c)
			}
		}
		level = next
		for _, s := range level {
			if t.Failed() {
				return // the others would fill the screen
			}
			checkText(t, s)
		}
	}
}

// P14.2
func TestLast(t *testing.T) {
	for s, want := range map[string]int{
		"": api.PoNone, ",": api.PoNone, " , ,\t": api.PoNone, "x": api.PoNone, "x, y": api.PoNone,
		"origin": api.PoOrigin, " origin": api.PoOrigin, "origin\t": api.PoOrigin, "\t origin \t": api.PoOrigin, "ORIGIN": api.PoOrigin,
		"origin,": api.PoOrigin, ",origin": api.PoOrigin, ",,origin,,": api.PoOrigin, "unsafe-url, ,": api.PoAll,
		"origin, same-origin": api.PoSame, "same-origin, origin": api.PoOrigin, "origin,same-origin,origin": api.PoOrigin, "no-referrer, strict-origin": api.PoStrict, "unsafe-url,no-referrer": api.PoNever, "no-referrer,unsafe-url": api.PoAll,
		"origin, x": api.PoOrigin, "x, origin": api.PoOrigin, "x, origin, y": api.PoOrigin, "origin, x, same-origin": api.PoSame, "x, origin, same-origin, y, z": api.PoSame, "no-referrer, strict-origin-when-cross-origin, new-one": api.PoStrictCross,
		"origin, Same-Origin": api.PoSame, "ORIGIN, SAME-ORIGINS": api.PoOrigin, "X,Unsafe-URL,": api.PoAll,
		"origin same-origin": api.PoNone, "origin;same-origin": api.PoNone, "same-origin, origin\n": api.PoSame, "same-origin, \norigin": api.PoSame, "same-origin,\x00,": api.PoSame, "strict-,origin": api.PoOrigin, "strict,-origin": api.PoNone, "\"origin\", 'same-origin'": api.PoNone,
		"same-origin,origin\xa0": api.PoSame, "same-origin,\u00a0origin": api.PoSame, "same-origin\uff0corigin": api.PoNone,
	} {
		if got := token.Last(s); got != want {
			t.Errorf("Last(%q) = %d, want %d", s, got, want)
		}
		checkText(t, s)
	}
}

// eachList goes through all lists of up to some of the texts.
func eachList(some []string, most int, f func(l []string)) {
	level := [][]string{nil}
	for range most {
		var next [][]string
		for _, l := range level {
			for _, s := range some {
				next = append(next, append(slices.Clone(l), s))
			}
		}
		level = next
		for _, l := range level {
			f(l)
		}
	}
}

// P14.2: names and others in each order.
func TestLastOfLists(t *testing.T) {
	some := append(slices.Clone(wantNames), "x", "Same-Origin", "origin origin", "STRICT-ORIGIN\t")
	eachList(some, 4, func(l []string) {
		if t.Failed() {
			return // the others would fill the screen
		}
		checkText(t, strings.Join(l, ","))
		checkText(t, strings.Join(l, ", "))
		checkText(t, strings.Join(l, "\t ,")+",")
	})
}

// P14.3
func TestTold(t *testing.T) {
	same := field("Referrer-Policy", "same-origin")
	for _, x := range []struct {
		l    []api.Field
		want int
	}{
		{nil, api.PoNone}, {[]api.Field{}, api.PoNone}, {[]api.Field{same}[:0], api.PoNone}, {[]api.Field{{}}, api.PoNone},
		{[]api.Field{field("X", "origin")}, api.PoNone}, {[]api.Field{field("", "origin")}, api.PoNone}, {[]api.Field{field("origin", "origin")}, api.PoNone}, {[]api.Field{field("same-origin", "Referrer-Policy")}, api.PoNone},
		{[]api.Field{field("Referer-Policy", "origin")}, api.PoNone}, {[]api.Field{field("Referrer-Policy ", "origin")}, api.PoNone}, {[]api.Field{field(" Referrer-Policy", "origin")}, api.PoNone}, {[]api.Field{field("Referrer-Policies", "origin")}, api.PoNone}, {[]api.Field{field("Referrer-Polic", "origin")}, api.PoNone}, {[]api.Field{field("eferrer-Policy", "origin")}, api.PoNone}, {[]api.Field{field("Referrer_Policy", "origin")}, api.PoNone}, {[]api.Field{field("Referrer", "origin")}, api.PoNone}, {[]api.Field{field("Referrer-Policy:", "origin")}, api.PoNone}, {[]api.Field{field("Referrer-Pol\u0131cy", "origin")}, api.PoNone}, {[]api.Field{field("Referrer-Pol\u0130cy", "origin")}, api.PoNone},
		{[]api.Field{same}, api.PoSame}, {[]api.Field{field("referrer-policy", "same-origin")}, api.PoSame}, {[]api.Field{field("REFERRER-POLICY", "SAME-ORIGIN")}, api.PoSame}, {[]api.Field{field("rEFERRER-pOLICY", "Same-Origin")}, api.PoSame},
		{values(""), api.PoNone}, {values("", ""), api.PoNone}, {values("", "origin", ""), api.PoOrigin}, {values("x"), api.PoNone}, {values(","), api.PoNone}, {values(" \torigin\t"), api.PoOrigin},
		{values("origin", "same-origin"), api.PoSame}, {values("same-origin", "origin"), api.PoOrigin}, {values("origin", "x"), api.PoOrigin}, {values("x", "origin"), api.PoOrigin}, {values("origin", "x", "y", "", "z"), api.PoOrigin},
		{values("origin, same-origin"), api.PoSame}, {values("origin, same-origin", "x, y"), api.PoSame}, {values("origin, same-origin", "x, unsafe-url, y"), api.PoAll}, {values("x, y", "origin, z", "no-referrer,"), api.PoNever}, {values("origin, same-origin, x", ",", "strict-origin-when-cross-origin,,"), api.PoStrictCross},
		{values("strict-", "origin"), api.PoOrigin}, {values("strict", "-origin"), api.PoNone}, {values("same-origin", "strict", "-origin"), api.PoSame}, // what stands in two fields is no one name
		{values("same-origin", "origin\n"), api.PoSame}, {values("same-origin", "\x00"), api.PoSame}, {values("origin same-origin"), api.PoNone},
		{[]api.Field{field("X", "origin"), same, field("Y", "unsafe-url")}, api.PoSame}, {[]api.Field{same, field("X", "origin"), field("referrer-policy", "y")}, api.PoSame}, {[]api.Field{same, field("X", "origin"), field("referrer-policy", "no-referrer"), field("Location", "/unsafe-url")}, api.PoNever},
	} {
		if got := token.Told(x.l); got != x.want {
			t.Errorf("Told(%s) = %d, want %d", brief(x.l), got, x.want)
		}
		checkFields(t, x.l)
	}
}

// P14.3: all lists of up to five of some fields.
func TestToldOfLists(t *testing.T) {
	some := append(values("origin", "Same-Origin, x", "y", "", "no-referrer,unsafe-url"), field("X", "strict-origin"), field("", "origin"), field("Referrer-Policy:", "origin"))
	var list []api.Field
	var deeper func(left int)
	deeper = func(left int) {
		checkFields(t, list)
		if left == 0 || t.Failed() {
			return
		}
		for _, x := range some {
			list = append(list, x)
			deeper(left - 1)
			list = list[:len(list)-1]
		}
	}
	deeper(5)
}

// P14.4: what is no policy's name, put in at each place of a list, and of fields.
func TestOthersChangeNothing(t *testing.T) {
	for _, l := range [][]string{nil, {"origin"}, {"x"}, {"same-origin", "Origin"}, {"no-referrer", "x", "UNSAFE-URL"}, {"strict-origin", "strict-origin-when-cross-origin", "y", "", "z"}, {"", "no-referrer-when-downgrade", ""}} {
		last, told := token.Last(strings.Join(l, ",")), token.Told(values(l...))
		if last != told {
			t.Errorf("%q: Last %d, Told %d", l, last, told)
		}
		for _, other := range others {
			for i := range len(l) + 1 {
				more := slices.Insert(slices.Clone(l), i, other)
				for _, between := range []string{",", ", ", "\t,"} {
					if got := token.Last(strings.Join(more, between)); got != last {
						t.Errorf("Last of %q = %d, without %q %d", more, got, other, last)
					}
				}
				if got := token.Told(values(more...)); got != told {
					t.Errorf("Told of %q = %d, without %q %d", more, got, other, told)
				}
				if got := token.Told(slices.Insert(values(l...), i, field(other, "origin"))); got != told {
					t.Errorf("Told of %q and a field %q = %d, without it %d", l, other, got, told)
				}
			}
		}
	}
}

// checkTwo is P14.4 of two lists, one behind the other.
func checkTwo(t *testing.T, a, b string) {
	t.Helper()
	want := token.Last(b)
	if want == api.PoNone {
		want = token.Last(a)
	}
	for _, between := range []string{",", ", ", " ,\t"} {
		if got := token.Last(a + between + b); got != want {
			t.Errorf("Last(%s) = %d, want %d", brief(a+between+b), got, want)
		}
	}
	for _, l := range [][]api.Field{values(a, b), append(values(a), field("X", a), field("Y", b), field("referrer-POLICY", b))} {
		if got := token.Told(l); got != want {
			t.Errorf("Told(%s) = %d, want %d", brief(l), got, want)
		}
	}
}

// P14.4: of two lists the last one that tells a policy counts.
func TestTwoLists(t *testing.T) {
	var lists []string
	eachList([]string{"origin", "Same-Origin", "x", "", "unsafe-url"}, 3, func(l []string) { lists = append(lists, strings.Join(l, ", ")) })
	lists = append(append(lists, wantNames...), others...)
	for _, a := range lists {
		for _, b := range lists {
			if t.Failed() {
				return // the others would fill the screen
			}
			checkTwo(t, a, b)
		}
	}
}

// P1: long texts and lists.
func TestLong(t *testing.T) {
	const many = 1 << 14
	for _, c := range []string{"a", ",", " ", "\t", "\n", "\x00", "\xff", "é", "-", "origin", "origin,", ", origin", "x,", " ,\t", "origin,x,", "UNSAFE-URL , "} {
		s := strings.Repeat(c, many)
		for _, text := range []string{s, s + "origin", "origin" + s, s + ",origin", "origin," + s, " " + s + ",same-origin," + s + "\t"} {
			checkText(t, text)
			checkFields(t, values("no-referrer", text, "x"))
		}
	}
	var l []api.Field
	for i := range many {
		l = append(l, field("Referrer-Policy", wantNames[i%api.Policies]), field(fmt.Sprint("x", i), "origin"))
		if i%1000 == 0 {
			checkFields(t, l)
		}
	}
	checkFields(t, l)
	checkFields(t, append(values("origin"), append(l[1:2], values(slices.Repeat([]string{"x"}, many)...)...)...))
}

// shares tells whether two texts have memory in common.
func shares(a, b string) bool {
	if a == "" || b == "" {
		return false
	}
	from, start := uintptr(unsafe.Pointer(unsafe.StringData(a))), uintptr(unsafe.Pointer(unsafe.StringData(b)))
	return from < start+uintptr(len(b)) && start < from+uintptr(len(a))
}

// spoil changes all of a list, and of its array beyond its length.
func spoil[T any](l []T, by T) {
	l = l[:cap(l)]
	for i := range l {
		l[i] = by
	}
}

// R3: no text of an answer lies in what was handed in, or in another text of an answer.
func TestOwn(t *testing.T) {
	for _, handed := range []string{"origin", "a,b", " a , origin,\tsame-origin\t", "one,one,one", "x"} {
		s := strings.Clone(handed)
		texts := append(token.Split(s), token.Split(s)...)
		for i, text := range texts {
			for _, other := range append(texts[:i:i], s) {
				if shares(text, other) {
					t.Errorf("Split(%q): %q shares memory with %q", s, text, other)
				}
			}
		}
		if name := token.Name(token.Policy(s)); shares(name, s) {
			t.Errorf("Name of Policy(%q) shares memory with it", s)
		}
	}
}

// R3: what is answered is the caller's own.
func TestAnswersChanged(t *testing.T) {
	const s = "a, origin ,same-origin"
	one, two := token.Split(s), token.Split(s)
	spoil(one, "!")
	if !slices.Equal(two, wantSplit(s)) {
		t.Errorf("an answer became %q", two)
	}
	for p := range api.Policies {
		if got := token.Name(p); got != wantNames[p] {
			t.Errorf("Name(%d) became %q", p, got)
		}
	}
	checkText(t, s)
}

// R3: the fields that are handed in, and their array beyond the length, stay as they were.
func TestHandedIn(t *testing.T) {
	all := append(values("origin, x", " Same-Origin\t", "y"), field("X", "no-referrer"), field("REFERRER-policy", ",unsafe-url"), field("", ""))
	for n := range len(all) + 1 {
		l := slices.Clone(all)
		if got, want := token.Told(l[:n]), wantTold(all[:n]); got != want {
			t.Errorf("Told(%s) = %d, want %d", brief(l[:n]), got, want)
		}
		if !slices.Equal(l, all) {
			t.Errorf("%s became %s", brief(all), brief(l))
		}
	}
}

// R5: what was asked before changes nothing.
func TestAskedAgain(t *testing.T) {
	l := values("origin", "x, Same-Origin", "")
	for range 3 {
		for _, s := range []string{"origin", "", "x", "UNSAFE-URL", " origin", "origin, x", "x,y", "same-origin,origin"} {
			checkText(t, s)
			checkFields(t, append(slices.Clone(l), values(s)...))
		}
		for p := -1; p <= api.Policies; p++ {
			if got, want := token.Name(p), wantName(p); got != want {
				t.Errorf("Name(%d) = %q, want %q", p, got, want)
			}
		}
		checkFields(t, l)
	}
}

// FuzzPolicies holds the promises against any texts, fields and numbers: its seeds run with the other tests.
func FuzzPolicies(f *testing.F) {
	f.Add("origin, something, same-origin, else", "Referrer-Policy", "unsafe-url", 3)
	f.Add("", "", "", 0)
	f.Add(" a , b\t,", "referrer-policy", "\torigin\n,", -1)
	f.Add("ORIGIN", "REFERRER-POLICY", "", 9)
	f.Add("\xff,é", "X", "strict-origin,,", 1<<40)
	f.Fuzz(func(t *testing.T, one, name, two string, p int) {
		if got, want := token.Name(p), wantName(p); got != want {
			t.Errorf("Name(%d) = %q, want %q", p, got, want)
		}
		for _, s := range []string{one, name, two, one + "," + two, two + ", " + one} {
			checkText(t, s)
		}
		checkTwo(t, one, two)
		checkTwo(t, two, one)
		checkFields(t, []api.Field{field(name, one), field("X", two), field("Referrer-Policy", two), field(name, two)})
		checkFields(t, append(values(one, two, name), field(name, one)))
	})
}

package place_test

import (
	"fmt"
	"math"
	"slices"
	"strings"
	"testing"
	"unsafe"

	"postmark/api"
	"postmark/iso"
	"postmark/join"
	"postmark/place"
	"postmark/show"
	"postmark/url"
)

// What is found.
const (
	nothing   = 0
	something = 1
	none      = 2
)

// wantRedirects and wantWeb are P18.1.
func wantRedirects(status int) bool {
	return slices.Contains([]int{301, 302, 303, 307, 308}, status)
}

func wantWeb(u api.Url) bool {
	return url.May(u) && (u.Scheme == "http" || u.Scheme == "https")
}

// named tells whether a text is the name Location, whichever of its letters are capital ones.
func named(s string) bool {
	const one, other = "location", "LOCATION"
	for i := range len(s) {
		if i >= len(one) || s[i] != one[i] && s[i] != other[i] {
			return false
		}
	}
	return len(s) == len(one)
}

// wantRaw is P18.2, field by field.
func wantRaw(l []api.Field) (string, int) {
	n, first := nothing, ""
	for _, f := range l {
		switch {
		case !named(f.Name):
		case n == nothing:
			n, first = something, f.Value
		case f.Value != first:
			return "", none
		}
	}
	var wide []rune
	for _, c := range []byte(first) {
		wide = append(wide, rune(c))
	}
	return string(wide), n
}

// wantPlace is P18.3.
func wantPlace(l []api.Field, cur api.Url) (api.Url, int) {
	text, n := wantRaw(l)
	if n != something {
		return api.Url{}, n
	}
	u, is := join.Resolve(cur, text)
	if !is {
		return api.Url{}, none
	}
	if !u.HasFrag {
		u.Frag, u.HasFrag = cur.Frag, cur.HasFrag
	}
	return u, something
}

// brief is what a test tells of what may be long.
func brief(x any) string {
	s := fmt.Sprintf("%+q", x)
	return s[:min(len(s), 400)]
}

// checkWeb is the other half of P18.1.
func checkWeb(t *testing.T, u api.Url) {
	t.Helper()
	if got, want := place.Web(u), wantWeb(u); got != want {
		t.Errorf("Web(%s) = %v, want %v", brief(u), got, want)
	}
}

// checkRaw is P18.2 of any fields.
func checkRaw(t *testing.T, l []api.Field) {
	t.Helper()
	got, n := place.Raw(l)
	if want, wantN := wantRaw(l); got != want || n != wantN {
		t.Errorf("Raw(%s) = %s, %d, want %s, %d", brief(l), brief(got), n, brief(want), wantN)
	}
	if n != something && got != "" || iso.Count(got) < len(got)/2 {
		t.Errorf("Raw(%s) = %s, %d", brief(l), brief(got), n)
	}
}

// checkPlace is P18.3, and the first half of P18.4, of any fields and address.
func checkPlace(t *testing.T, l []api.Field, cur api.Url) {
	t.Helper()
	checkRaw(t, l)
	u, n := place.Place(l, cur)
	if want, wantN := wantPlace(l, cur); !url.Same(u, want) || n != wantN {
		t.Errorf("Place(%s, %s) = %s, %d, want %s, %d", brief(l), brief(cur), brief(u), n, brief(want), wantN)
	}
	if url.May(u) != (n == something) || n != something && !url.Same(u, api.Url{}) {
		t.Errorf("Place(%s, %s) = %s, %d", brief(l), brief(cur), brief(u), n)
	}
	if _, raw := place.Raw(l); n != raw && (raw != something || n != none) {
		t.Errorf("Place(%s, %s) finds %d, Raw %d", brief(l), brief(cur), n, raw)
	}
	checkWeb(t, u)
}

// checkShown is P18.3 of an address and one value, as text: empty, if there is none.
func checkShown(t *testing.T, value string, cur api.Url, want string) {
	t.Helper()
	l := location(value)
	checkPlace(t, l, cur)
	u, n := place.Place(l, cur)
	if got := show.Show(u); got != want || n != found(want) {
		t.Errorf("%s at %s is %s, %d, want %s", brief(value), brief(show.Show(cur)), brief(got), n, brief(want))
	}
}

// checkOthers is the last sentence of P18.4: some other fields, wherever they stand, do not matter.
func checkOthers(t *testing.T, l []api.Field, cur api.Url, others ...api.Field) {
	t.Helper()
	text, raw := place.Raw(l)
	u, n := place.Place(l, cur)
	for at := range len(l) + 1 {
		with := slices.Insert(slices.Clone(l), at, others...)
		checkPlace(t, with, cur)
		if s, m := place.Raw(with); s != text || m != raw {
			t.Errorf("Raw(%s) = %s, %d, but without other fields %s, %d", brief(with), brief(s), m, brief(text), raw)
		}
		if v, m := place.Place(with, cur); !url.Same(u, v) || m != n {
			t.Errorf("Place(%s, %s) = %s, %d, but without other fields %s, %d", brief(with), brief(cur), brief(v), m, brief(u), n)
		}
	}
}

// found is what is found, if a text is wanted, that is empty if there is none.
func found(want string) int {
	if want == "" {
		return none
	}
	return something
}

// location are fields of that name, one a value.
func location(values ...string) []api.Field {
	var l []api.Field
	for _, v := range values {
		l = append(l, api.Field{Name: "Location", Value: v})
	}
	return l
}

func parsed(t *testing.T, s string) api.Url {
	t.Helper()
	u, is := url.Parse(s)
	if !is {
		t.Fatalf("%.200q is no address", s)
	}
	return u
}

// The chapter's section "Examples".
func TestExample(t *testing.T) {
	checkShown(t, "/x", parsed(t, "http://a.org/b#c"), "http://a.org/x#c")
}

// P18.1: each number from below 0 to above 1000, and each that is a redirect in fewer bits.
func TestRedirects(t *testing.T) {
	check := func(status int) {
		t.Helper()
		if got, want := place.Redirects(status), wantRedirects(status); got != want {
			t.Errorf("Redirects(%d) = %v, want %v", status, got, want)
		}
	}
	for status := -1100; status <= 1100; status++ {
		check(status)
		for bits := 8; bits < 64; bits++ {
			for _, far := range []int{status + 1<<bits, status - 1<<bits, status ^ 1<<bits} {
				check(far)
			}
		}
	}
	for _, status := range []int{math.MaxInt, math.MinInt, math.MinInt + 301, math.MaxInt - 301, 30100, 3010, 3080} {
		check(status)
	}
}

// webs are texts of addresses of the web, with all parts and without, others such of other addresses.
var (
	webs   = []string{"http://a.org", "https://a.org", "https://u:p@a.org:8443/b//c?d#e", "http://:p@[::1]:0//?#", "https://u@127.0.0.1:80/%20/b#f", "http://a.org:443/b/?c", "https://localhost:65535/b/c#", "http://1.2.3.4/?c#d?e#f"}
	others = []string{"about:", "about:blank", "about:blank?c#d", "data:", "data:,", "data:a,b?c#d", "data://a.org/b", "blob:https://a.org/b", "blob:?", "blob:#", "blob:?#e"}
)

// changes are what makes addresses that may be ones that may not be, one part wrong alone.
var changes = []func(u *api.Url){
	func(u *api.Url) { u.Scheme = "" },
	func(u *api.Url) { u.Scheme = "ftp" },
	func(u *api.Url) { u.Scheme = strings.ToUpper(u.Scheme) },
	func(u *api.Url) { u.Scheme += ":" },
	func(u *api.Url) { u.User = "x:" },
	func(u *api.Url) { u.Pass = "x@" },
	func(u *api.Url) { u.Host.Name = "A.org" },
	func(u *api.Url) { u.Host.Num -= 1 << 33 },
	func(u *api.Url) { u.Host.Six[3] = -1 },
	func(u *api.Url) { u.Host.Kind = api.HoKinds },
	func(u *api.Url) { u.Port = 65536 },
	func(u *api.Url) { u.Port = -2 },
	func(u *api.Url) { u.Path = []string{"x", "..", "y"} },
	func(u *api.Url) { u.Path = []string{"x y"} },
	func(u *api.Url) { u.Opaque = "x?" },
	func(u *api.Url) { u.Query, u.HasQuery = "x", false },
	func(u *api.Url) { u.Query, u.HasQuery = "'", true },
	func(u *api.Url) { u.Frag, u.HasFrag = "x", false },
	func(u *api.Url) { u.Frag, u.HasFrag = "`", true },
}

// mayNots are addresses that may not be: the zero one, and ones with one part wrong alone.
func mayNots(t *testing.T) []api.Url {
	all := []api.Url{{}, {Port: -1}, {Scheme: "http"}, {Scheme: "https", Port: -1, Path: []string{""}}, {Scheme: "data", Port: 0}, {Scheme: "about", Port: -1, Path: []string{""}}, {Scheme: "https", Port: 443, Host: api.Host{Kind: api.HoDomain, Name: "a.org"}, Path: []string{""}}, {Scheme: "http", Port: 80, Host: api.Host{Kind: api.HoDomain, Name: "a.org"}, Path: []string{""}}}
	for _, s := range slices.Concat(webs, others) {
		for _, change := range changes {
			u := parsed(t, s)
			change(&u)
			all = append(all, u)
		}
	}
	for _, u := range all {
		if url.May(u) {
			t.Fatalf("%s may be", brief(u))
		}
	}
	return all
}

// P18.1: addresses of the web, others, and ones that may not be.
func TestWeb(t *testing.T) {
	for _, s := range webs {
		if u := parsed(t, s); !place.Web(u) {
			t.Errorf("%q is not of the web", s)
		}
	}
	for _, s := range others {
		if u := parsed(t, s); place.Web(u) {
			t.Errorf("%q is of the web", s)
		}
	}
	for _, u := range mayNots(t) {
		if place.Web(u) {
			t.Errorf("%s is of the web", brief(u))
		}
	}
	for _, scheme := range []string{"", "h", "htt", "http", "https", "httpss", "HTTP", "Https", "http:", " http", "ftp", "ws", "wss", "file", "about", "data", "blob"} {
		for _, s := range slices.Concat(webs, others) {
			u := parsed(t, s)
			u.Scheme = scheme
			checkWeb(t, u)
		}
	}
}

// noNames are names that are like Location, and are not it.
var noNames = []string{"", "X", "Loc", "Locatio", "ocation", "Location ", " Location", "Location:", "Locations", "LLocation", "Lo-cation", "Content-Location", "X-Location", "Location-", "L\xc3\xb6cation", "Locat\xc4\xb1on", "\x00Location", "Location\x00", "Refresh", "Link", "URI", "Referrer-Policy", "l", "%4Cocation"}

// P18.2: names in capital letters and not.
func TestNames(t *testing.T) {
	for bits := range 1 << len("location") {
		name := []byte("location")
		for i := range name {
			if bits>>i&1 == 1 {
				name[i] -= 'a' - 'A'
			}
		}
		l := []api.Field{{Name: string(name), Value: "/\xe9"}}
		if s, n := place.Raw(l); s != "/\xc3\xa9" || n != something {
			t.Errorf("Raw(%s) = %q, %d", brief(l), s, n)
		}
		checkRaw(t, append(l, location("/\xe9")...))
		checkRaw(t, append(l, location("/\xc9")...))
		if s, n := place.Raw(append(l, location("/x")...)); s != "" || n != none {
			t.Errorf("%q and Location differ, but Raw is %q, %d", name, s, n)
		}
	}
	for _, name := range noNames {
		l := []api.Field{{Name: name, Value: "/x"}}
		if s, n := place.Raw(l); s != "" || n != nothing {
			t.Errorf("Raw(%s) = %q, %d", brief(l), s, n)
		}
		checkRaw(t, append(l, location("/y")...))
	}
}

// P18.2: each byte in each place of the name.
func TestNameOfEachByte(t *testing.T) {
	for c := range 256 {
		for i := range len("Location") {
			name := []byte("Location")
			name[i] = byte(c)
			checkRaw(t, []api.Field{{Name: string(name), Value: "/x"}})
			checkRaw(t, slices.Insert(location("/x", "/x"), 1, api.Field{Name: string(name), Value: "/y"}))
		}
	}
}

// P18.2, R6: no fields, none by that name, one, two and three that are the same, and such that are not.
func TestRaw(t *testing.T) {
	for _, x := range []struct {
		l    []api.Field
		want string
		n    int
	}{
		{nil, "", nothing},
		{[]api.Field{}, "", nothing},
		{make([]api.Field, 3), "", nothing},
		{[]api.Field{{Name: "X", Value: "/x"}}, "", nothing},
		{[]api.Field{{Name: "X", Value: "Location: /x"}, {Name: "", Value: "Location"}}, "", nothing},
		{location(""), "", something},
		{location("", ""), "", something},
		{location("", "", ""), "", something},
		{location("/x"), "/x", something},
		{location("/x", "/x"), "/x", something},
		{location("/x", "/x", "/x"), "/x", something},
		{location("/x", "/y"), "", none},
		{location("/x", "/X"), "", none},
		{location("/x", ""), "", none},
		{location("", "/x"), "", none},
		{location("/x", "/x "), "", none},
		{location("/x", "/x", "/y"), "", none},
		{location("/x", "/y", "/x"), "", none},
		{location("/y", "/x", "/x"), "", none},
		{location("/x", "/y", "/z"), "", none},
		{location("", "", "/x"), "", none},
		{location("/\xe9", "/\xc3\xa9"), "", none},
		{location("/\xe9", "/\xe9"), "/\xc3\xa9", something},
		{location("/x", "/x#"), "", none},
		{location("/%41", "/A"), "", none},
		{location("/x, /y"), "/x, /y", something},
		{location(" \t"), " \t", something},
		{location("/x\r\n", "/x\r\n"), "/x\r\n", something},
		{location("no address: \x00"), "no address: \x00", something},
		{location("\xff\x80\x7f"), "\xc3\xbf\xc2\x80\x7f", something},
		{location("\xe2\x82\xac"), "\xc3\xa2\xc2\x82\xc2\xac", something},
	} {
		if got, n := place.Raw(x.l); got != x.want || n != x.n {
			t.Errorf("Raw(%s) = %q, %d, want %q, %d", brief(x.l), got, n, x.want, x.n)
		}
		checkPlace(t, x.l, parsed(t, "http://a.org/b/c?d#e"))
		checkPlace(t, x.l, parsed(t, "data:,"))
		checkPlace(t, x.l, api.Url{})
	}
}

// P18.2: many that are the same, and one of them that is not, in each place.
func TestMany(t *testing.T) {
	for many := range 20 {
		l := location(slices.Repeat([]string{"/x"}, many)...)
		checkRaw(t, l)
		for at := range many + 1 {
			for _, v := range []string{"/x", "/y", "", "/x\x00"} {
				checkRaw(t, slices.Insert(slices.Clone(l), at, location(v)...))
			}
		}
	}
}

// allBytes is a text of each byte, once.
func allBytes() string {
	var all []byte
	for c := range 256 {
		all = append(all, byte(c))
	}
	return string(all)
}

// P18.2: values of each byte, of two, and of all.
func TestValueOfEachByte(t *testing.T) {
	all := allBytes()
	checkRaw(t, location(all))
	checkRaw(t, location(all, all))
	if s, n := place.Raw(location(all)); n != something || len(s) != 128+2*128 || s[:128] != all[:128] {
		t.Errorf("Raw of all bytes is %q, %d", s, n)
	}
	for c := range 256 {
		s := string([]byte{byte(c)})
		for d := range 256 {
			checkRaw(t, location(s+string([]byte{byte(d)})))
			checkRaw(t, location(s, string([]byte{byte(d)})))
		}
		checkRaw(t, location(all[:c], all[:c]))
		checkRaw(t, location(all[c:], all[:c]))
		checkRaw(t, location(s+"\xa9", s+"\xa9"))
	}
}

// An at is an address of the web, part by part: its path up to the last slash, that up to the slash ahead of it, and what stands behind.
type at struct{ scheme, door, dir, up, file, query, frag string }

func (a at) text() string { return a.scheme + a.door + a.dir + a.file + a.query + a.frag }

// ats are addresses with and without a user, a port, a query, and a fragment.
func ats() []at {
	var all []at
	for _, scheme := range []string{"http:", "https:"} {
		for _, door := range []string{"//a.org", "//u:p@a.org:8443", "//u@[::1]", "//:p@127.0.0.1:0"} {
			for _, path := range [][3]string{{"/", "/", ""}, {"/", "/", "c"}, {"/b/", "/", "c"}, {"/b/c%20/", "/b/", ""}} {
				for _, query := range []string{"", "?", "?d=/x"} {
					for _, frag := range []string{"", "#", "#e?f#g"} {
						all = append(all, at{scheme, door, path[0], path[1], path[2], query, frag})
					}
				}
			}
		}
	}
	return all
}

// leads are values without a fragment, and where they lead from an address, but for its fragment.
func (a at) leads() map[string]string {
	door, dir := a.scheme+a.door, a.scheme+a.door+a.dir
	return map[string]string{
		"":                        dir + a.file + a.query,
		" \t\r\n":                 dir + a.file + a.query,
		"?":                       dir + a.file + "?",
		"?x y":                    dir + a.file + "?x%20y",
		"?\xe9":                   dir + a.file + "?%C3%A9",
		"x":                       dir + "x",
		" x ":                     dir + "x",
		"x\ty":                    dir + "xy",
		"x/y?z":                   dir + "x/y?z",
		"./x":                     dir + "x",
		".":                       dir,
		"..":                      door + a.up,
		"../x":                    door + a.up + "x",
		"\xe9":                    dir + "%C3%A9",
		"\xc3\xa9":                dir + "%C3%83%C2%A9",
		"\xa0x\x85":               dir + "%C2%A0x%C2%85",
		"%e9":                     dir + "%e9",
		"/":                       door + "/",
		"/x":                      door + "/x",
		"/x/../y":                 door + "/y",
		"/\xff?\x80":              door + "/%C3%BF?%C2%80",
		"/x:y":                    door + "/x:y",
		"/http://b.org":           door + "/http://b.org",
		"//b.org":                 a.scheme + "//b.org/",
		"//B.org:8080/x?y":        a.scheme + "//b.org:8080/x?y",
		"//v:\xe9@b.org":          a.scheme + "//v:%C3%A9@b.org/",
		"http://b.org":            "http://b.org/",
		"HTTPS://v:q@B.org:443/x": "https://v:q@b.org/x",
		"https://b.org:80?\xe9":   "https://b.org:80/?%C3%A9",
		"http://1.2.3.4/../x":     "http://1.2.3.4/x",
		"data:,\xe9":              "data:,%C3%A9",
		"data:a,b?c":              "data:a,b?c",
		"about:blank":             "about:blank",
		"BLOB:https://b.org/x":    "blob:https://b.org/x",
	}
}

// nones are values that are no address, wherever they stand.
var nones = []string{"//", "///x", "//:81", "//@", "//b.org:x", "//b.org:65536", "//b.org:-1", "//b org", "//b^c.org", "//b%2eorg", "//\xe9", "//\xe9.org/x", "//1.2.3", "//[::1", "//::1", "//b..org", "ftp://b.org", "ws://b.org", "file:///x", "mailto:v@b.org", "javascript:x", "x:y", "a.org:81", "localhost:", "http:", "http:x", "http:/x", "http://", "http:///x", "http:?x", "https://v@", "HTTP://b.org:99999/", " ftp:", "h\tttps:x", "https://" + strings.Repeat("b", 101)}

// P18.3, P18.4: each value at each address of the web, with a fragment and without.
func TestPlaceAtWeb(t *testing.T) {
	for _, a := range ats() {
		cur := parsed(t, a.text())
		for value, want := range a.leads() {
			checkShown(t, value, cur, want+a.frag)
			// A blank ahead of a number sign is not at the value's end.
			value = strings.TrimRight(value, " ")
			for frag, told := range map[string]string{"#": "#", "#g": "#g", "#\xe9 g?h#i": "#%C3%A9%20g?h#i", "# ": "#", "#" + allBytes()[1:4] + "i": "#%01%02%03i"} {
				checkShown(t, value+frag, cur, want+told)
			}
		}
		for _, value := range nones {
			for _, behind := range []string{"", "#", "#g"} {
				checkShown(t, value+behind, cur, "")
			}
		}
	}
}

// P18.3: opaque addresses: beside them stand whole ones alone, that have their fragments.
func TestPlaceAtOpaque(t *testing.T) {
	some := ats()[0]
	for _, s := range others {
		cur := parsed(t, s)
		_, frag, has := strings.Cut(s, "#")
		if has {
			frag = "#" + frag
		}
		for value, want := range some.leads() {
			if !join.Whole(value) {
				checkShown(t, value, cur, "")
				checkShown(t, value+"#g", cur, "")
				checkShown(t, value+frag, cur, "")
				continue
			}
			checkShown(t, value, cur, want+frag)
			checkShown(t, value+"#", cur, want+"#")
			checkShown(t, value+"#g", cur, want+"#g")
		}
		for _, value := range nones {
			checkShown(t, value, cur, "")
			checkShown(t, value+"#g", cur, "")
		}
	}
}

// P18.3, R4: at an address that may not be there is none, if Raw found something; else what Raw found.
func TestPlaceAtMayNot(t *testing.T) {
	for _, cur := range mayNots(t) {
		for _, value := range append(slices.Concat(webs, others, nones), "", "/x", "x", "?", "#") {
			checkShown(t, value, cur, "")
		}
		for n, l := range map[int][]api.Field{nothing: {{Name: "X", Value: "http://a.org"}}, none: location("http://a.org", "http://b.org")} {
			if u, m := place.Place(l, cur); m != n || !url.Same(u, api.Url{}) {
				t.Errorf("Place(%s, %s) = %s, %d", brief(l), brief(cur), brief(u), m)
			}
			checkPlace(t, l, cur)
		}
		checkPlace(t, nil, cur)
	}
}

// P18.2, P18.3: several values, at each address.
func TestPlaceOfSeveral(t *testing.T) {
	curs := []api.Url{{}}
	for _, s := range slices.Concat(webs, others) {
		curs = append(curs, parsed(t, s))
	}
	values := []string{"", "/x", "x", "?", "#g", "http://b.org", "http://b.org/", "ftp://b.org", "//", "\xe9"}
	for _, cur := range curs {
		for _, one := range values {
			for _, two := range values {
				l := location(one, two)
				checkPlace(t, l, cur)
				checkPlace(t, append(l, location(one)...), cur)
				checkPlace(t, append(l, location(two)...), cur)
				got, n := place.Place(l, cur)
				alone, m := place.Place(location(one), cur)
				if one == two && (n != m || !url.Same(got, alone)) || one != two && n != none {
					t.Errorf("Place(%s, %s) = %s, %d", brief(l), brief(cur), brief(got), n)
				}
			}
		}
	}
}

// P18.4: an empty value, and the address's own text, send one to the address itself; and so does each part of it.
func TestItself(t *testing.T) {
	for _, a := range ats() {
		cur := parsed(t, a.text())
		for _, value := range []string{"", " ", "\t", "\r\n", a.frag, a.text(), strings.ToUpper(a.scheme) + a.door + a.dir + a.file + a.query, a.door + a.dir + a.file + a.query, a.dir + a.file + a.query} {
			if u, n := place.Place(location(value), cur); n != something || !url.Same(u, cur) {
				t.Errorf("%q at %q is %s, %d", value, a.text(), brief(u), n)
			}
		}
	}
	for _, s := range slices.Concat(webs, others) {
		cur := parsed(t, s)
		for _, value := range []string{s, show.Show(cur), " " + show.Show(cur) + "\n", show.Show(show.Bare(cur))} {
			if u, n := place.Place(location(value, value), cur); n != something || !url.Same(u, cur) {
				t.Errorf("%q at %q is %s, %d", value, s, brief(u), n)
			}
		}
	}
}

// P18.4: other fields do not matter, wherever they stand.
func TestOthers(t *testing.T) {
	for _, l := range [][]api.Field{nil, location("/x"), location(""), location("/x", "/x"), location("/x", "/y"), location("ftp:"), location("https://b.org/\xe9#", "https://b.org/\xe9#", "https://b.org/\xe9#")} {
		for _, s := range []string{"http://a.org/b?c#d", "data:,#f"} {
			cur := parsed(t, s)
			for i, name := range noNames {
				for _, value := range []string{"/x", "/z", "", "\xff", "Location", "Location: /z"} {
					checkOthers(t, l, cur, api.Field{Name: name, Value: value})
				}
				checkOthers(t, l, cur, api.Field{Name: name}, api.Field{Name: noNames[(i+7)%len(noNames)], Value: "http://c.org"})
			}
			several := slices.Clone(l)
			for i := range len(l) + 1 {
				several = slices.Insert(several, 2*i, api.Field{Name: "X", Value: "/no"})
			}
			u, n := place.Place(l, cur)
			if v, m := place.Place(several, cur); !url.Same(u, v) || m != n {
				t.Errorf("Place(%s, %s) = %s, %d", brief(several), brief(cur), brief(v), m)
			}
		}
	}
}

// P18.1 to P18.4: each byte in each part of a value.
func TestPlaceOfEachByte(t *testing.T) {
	var curs []api.Url
	for _, s := range []string{"http://a.org/b?c#d", "https://u:p@a.org:81/", "data:,#f"} {
		curs = append(curs, parsed(t, s))
	}
	curs = append(curs, api.Url{})
	for n := range 256 {
		c := string([]byte{byte(n)})
		for _, cur := range curs {
			for _, value := range []string{c, c + "/x", "a" + c + "b", "/a" + c + "b/" + c, "/x" + c, "?a" + c + "b", "#a" + c + "b", "//a" + c + "b", "//a" + c + "@b.org", "//b.org:1" + c, "http" + c + "://b.org", "http:" + c + "/b.org", c + "https://b.org/", "https://b.org/" + c, "data:a" + c + "b", "." + c + "/x"} {
				checkPlace(t, location(value), cur)
			}
		}
		for _, put := range []func(u *api.Url){
			func(u *api.Url) { u.Scheme += c },
			func(u *api.Url) { u.User = c },
			func(u *api.Url) { u.Host.Name += c },
			func(u *api.Url) { u.Path = []string{c, "x"} },
			func(u *api.Url) { u.Query, u.HasQuery = c, true },
			func(u *api.Url) { u.Frag, u.HasFrag = c, true },
		} {
			u := parsed(t, "https://a.org")
			put(&u)
			checkWeb(t, u)
			for _, value := range []string{"", "x", "/x", "#g", "http://b.org"} {
				checkPlace(t, location(value), u)
			}
		}
	}
}

// P1: long texts, addresses with long parts, and many fields.
func TestLong(t *testing.T) {
	for _, c := range []string{"a", "%", ".", "../", "/", "?", "#", ":", "@", " ", "\t", "\xff", "é"} {
		s := strings.Repeat(c, 1<<13)
		cur := parsed(t, "http://a.org/b#c")
		for _, value := range []string{s, "/" + s, "//" + s, "?" + s, "#" + s, "http://" + s, "https://a.org/" + s, "data:" + s, s + ":"} {
			checkPlace(t, location(value), cur)
			checkPlace(t, location(value, value), cur)
			checkPlace(t, location(value, value+"x"), cur)
		}
		for _, put := range []func(u *api.Url){
			func(u *api.Url) { u.Scheme = s },
			func(u *api.Url) { u.User = s },
			func(u *api.Url) { u.Host.Name = s },
			func(u *api.Url) { u.Path = strings.Split(s, "/") },
			func(u *api.Url) { u.Frag, u.HasFrag = s, true },
		} {
			u := cur
			put(&u)
			checkPlace(t, location("x"+s), u)
			checkPlace(t, location(""), u)
		}
		checkPlace(t, []api.Field{{Name: s, Value: s}, {Name: "Location" + s, Value: s}}, cur)
	}
	many := location(slices.Repeat([]string{"/x"}, 1<<13)...)
	checkPlace(t, many, parsed(t, "http://a.org"))
	checkPlace(t, append(many, location("/y")...), parsed(t, "http://a.org"))
	checkPlace(t, slices.Repeat([]api.Field{{Name: "X", Value: "/x"}}, 1<<13), parsed(t, "http://a.org"))
}

// shares tells whether a text lies in another one's memory.
func shares(a, b string) bool {
	if a == "" || b == "" {
		return false
	}
	from, start := uintptr(unsafe.Pointer(unsafe.StringData(a))), uintptr(unsafe.Pointer(unsafe.StringData(b)))
	return from >= start && from < start+uintptr(len(b))
}

// parts are all texts that an address holds.
func parts(u api.Url) []string {
	return append([]string{u.Scheme, u.User, u.Pass, u.Host.Name, u.Opaque, u.Query, u.Frag}, u.Path...)
}

// fresh is an address whose texts are of their own memory, not of the program's.
func fresh(t *testing.T, s string) api.Url {
	u := parsed(t, s)
	for _, p := range []*string{&u.Scheme, &u.User, &u.Pass, &u.Host.Name, &u.Opaque, &u.Query, &u.Frag} {
		*p = strings.Clone(*p)
	}
	for i := range u.Path {
		u.Path[i] = strings.Clone(u.Path[i])
	}
	return u
}

// R3: what is answered is the caller's own.
func TestOwn(t *testing.T) {
	for _, s := range slices.Concat(webs, others) {
		cur := fresh(t, s)
		for _, value := range append(slices.Concat(webs, others, nones), "", "x", "/x/y", "?x", "#x", "../x/y?z#w", "//b.org/x", "x\xe9") {
			l := location(strings.Clone(value), strings.Clone(value))
			text, _ := place.Raw(l)
			u, n := place.Place(l, cur)
			for _, got := range append(parts(u), text) {
				for _, x := range append(parts(cur), l[0].Name, l[0].Value, l[1].Value) {
					if shares(got, x) {
						t.Errorf("%q of %s lies in %q", got, brief(u), x)
					}
				}
			}
			again, _ := place.Place(l, cur)
			before := show.Show(again)
			for _, path := range [][]string{u.Path, append(u.Path, "more")} {
				for i := range path {
					path[i] = "changed"
				}
			}
			if show.Show(again) != before || !url.Same(cur, parsed(t, s)) {
				t.Errorf("%q at %q, %d: %s became %s, and %s", value, s, n, before, brief(again), brief(cur))
			}
			checkPlace(t, l, cur)
		}
	}
}

// R3: later changes to what was handed in change nothing of what was answered.
func TestLaterChanges(t *testing.T) {
	for _, s := range slices.Concat(webs, others) {
		for _, value := range []string{"", "x", "?x", "#x", "../x", "//b.org/x", "http://b.org", "data:x"} {
			cur, l := parsed(t, s), location(value)
			u, _ := place.Place(l, cur)
			before := brief(u)
			path := cur.Path[:cap(cur.Path)]
			for i := range path {
				path[i] = "changed"
			}
			l[0].Value, l[0].Name = "changed", "changed"
			if brief(u) != before {
				t.Errorf("%q at %q: %s became %s", value, s, before, brief(u))
			}
		}
	}
}

// R3, R5: what is handed in stays as it was, and what was asked before changes nothing.
func TestAskedAgain(t *testing.T) {
	all := mayNots(t)
	for _, s := range slices.Concat(webs, others) {
		all = append(all, parsed(t, s))
	}
	lists := [][]api.Field{nil, location("/x"), location(""), location("x", "x"), location("x", "y"), location("//b.org"), location("#g"), location("//")}
	for range 3 {
		for i, u := range all {
			// There is room behind the end of what is handed in.
			path := append(slices.Clone(u.Path), "behind", "further")
			u.Path = path[:len(u.Path)]
			list := append(slices.Clone(lists[i%len(lists)]), location("behind", "further")...)
			l := list[:len(list)-2]
			before, fields, segments := brief(u), slices.Clone(list), slices.Clone(path)
			checkPlace(t, l, u)
			checkWeb(t, u)
			if brief(u) != before || !slices.Equal(list, fields) || !slices.Equal(path, segments) {
				t.Errorf("%s became %s, %s became %s", before, brief(u), brief(fields), brief(list))
			}
		}
	}
}

// FuzzPlaces holds the promises against any fields and addresses: its seeds run with the other tests.
func FuzzPlaces(f *testing.F) {
	for i, s := range slices.Concat(webs, others, nones, noNames) {
		f.Add(webs[i%len(webs)], "Location", s, "X", "location", s, "b/c", "a.org", i, 300+i)
		f.Add(s, noNames[i%len(noNames)], "/x", "LOCATION", s, webs[i%len(webs)], s, "localhost", -1, -i)
	}
	f.Fuzz(func(t *testing.T, target, name, value, other, third, last, segments, host string, port, status int) {
		if place.Redirects(status) != wantRedirects(status) {
			t.Errorf("Redirects(%d) = %v", status, place.Redirects(status))
		}
		cur, _ := url.Parse(target)
		put := api.Url{Scheme: "https", Host: api.Host{Kind: api.HoDomain, Name: host}, Port: port, Path: strings.Split(segments, "/"), Frag: third, HasFrag: true}
		for _, u := range []api.Url{cur, put, {}} {
			checkWeb(t, u)
			for _, l := range [][]api.Field{location(value), location(value, third), location(value, value, last), {{Name: name, Value: value}, {Name: other, Value: third}, {Name: third, Value: last}}} {
				checkPlace(t, l, u)
				if !named(other) {
					checkOthers(t, l, u, api.Field{Name: other, Value: last})
				}
			}
			if v, n := place.Place(location(""), u); wantWeb(u) && (n != something || !url.Same(u, v)) {
				t.Errorf("nothing at %s is %s, %d", brief(u), brief(v), n)
			}
			if v, n := place.Place(location(show.Show(u)), u); url.May(u) && (n != something || !url.Same(u, v)) {
				t.Errorf("the text of %s is %s, %d", brief(u), brief(v), n)
			}
		}
	})
}

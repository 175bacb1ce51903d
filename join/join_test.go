package join_test

import (
	"fmt"
	neturl "net/url"
	"regexp"
	"slices"
	"strings"
	"testing"
	"unsafe"

	"postmark/api"
	"postmark/join"
	"postmark/show"
	"postmark/url"
)

// wantClean is a text without what is left off at its ends and within.
func wantClean(s string) string {
	for s != "" && s[0] <= ' ' {
		s = s[1:]
	}
	for s != "" && s[len(s)-1] <= ' ' {
		s = s[:len(s)-1]
	}
	return strings.NewReplacer("\t", "", "\n", "", "\r", "").Replace(s)
}

var scheme = regexp.MustCompile(`^[A-Za-z][A-Za-z0-9+.-]*:`)

// wantWhole is the first half of P11.1.
func wantWhole(ref string) bool { return scheme.MatchString(wantClean(ref)) }

// wantInherit is the other half, part by part.
func wantInherit(u, from api.Url) api.Url {
	frag, has := from.Frag, from.HasFrag
	if u.HasFrag {
		frag, has = u.Frag, true
	}
	return api.Url{Scheme: u.Scheme, User: u.User, Pass: u.Pass, Host: u.Host, Port: u.Port, Path: u.Path, Opaque: u.Opaque, Query: u.Query, HasQuery: u.HasQuery, Frag: frag, HasFrag: has}
}

// A whole address of the web up to its path, its path up to the last slash, and what stands behind that, its query, and its fragment.
var (
	whole = regexp.MustCompile(`^(https?:)(//[^/]+)(/(?:[^?#]*/)?)([^/?#]*)(\?[^#]*)?(#.*)?$`)
	parts = regexp.MustCompile(`(?s)^([^?#]*)(\?[^#]*)?(#.*)?$`)
)

// wantResolve is P11.2, by what the address is as text.
func wantResolve(base api.Url, ref string) (api.Url, bool) {
	of := whole.FindStringSubmatch(show.Show(base))
	s := wantClean(ref)
	switch {
	case !url.May(base) || of == nil && !wantWhole(s):
		return api.Url{}, false
	case wantWhole(s):
		return url.Parse(s)
	case len(s) > 1 && s[:2] == "//":
		return url.Parse(of[1] + s)
	}
	x := parts.FindStringSubmatch(s)
	t, query, frag := x[1], x[2], x[3]
	switch {
	case t == "" && query == "":
		t, query = of[3]+of[4], of[5]
	case t == "":
		t = of[3] + of[4]
	case t[0] != '/':
		t = of[3] + t
	}
	return url.Parse(of[1] + of[2] + t + query + frag)
}

// brief is what a test tells of an address, which may be long.
func brief(u api.Url) string {
	s := fmt.Sprintf("%+v", u)
	return s[:min(len(s), 400)]
}

func checkWhole(t *testing.T, ref string, want bool) {
	t.Helper()
	if got := join.Whole(ref); got != want || wantWhole(ref) != want {
		t.Errorf("Whole(%.200q) = %v, want %v", ref, got, want)
	}
}

func checkInherit(t *testing.T, u, from api.Url) {
	t.Helper()
	if got, want := join.Inherit(u, from), wantInherit(u, from); !url.Same(got, want) {
		t.Errorf("Inherit(%s, %s) = %s", brief(u), brief(from), brief(got))
	}
}

// checkResolve is P11.2 and P11.3 of an address and a text.
func checkResolve(t *testing.T, base api.Url, ref string) {
	t.Helper()
	got, is := join.Resolve(base, ref)
	want, wantIs := wantResolve(base, ref)
	if is != wantIs || !url.Same(got, want) {
		t.Errorf("Resolve(%s, %.200q) = %s, %v, want %s, %v", brief(base), ref, brief(got), is, brief(want), wantIs)
	}
	if is != url.May(got) {
		t.Errorf("Resolve(%s, %.200q) is %v, but may be: %v", brief(base), ref, is, url.May(got))
	}
}

// checkShown is P11.2 of an address and a text, as text: empty, if there is none.
func checkShown(t *testing.T, base api.Url, ref, want string) {
	t.Helper()
	u, is := join.Resolve(base, ref)
	if got := show.Show(u); got != want || is != (want != "") || !is && !url.Same(u, api.Url{}) {
		t.Errorf("Resolve(%s, %.200q) = %.200q, %v, want %.200q", brief(base), ref, got, is, want)
	}
	checkResolve(t, base, ref)
}

func parsed(t *testing.T, s string) api.Url {
	t.Helper()
	u, is := url.Parse(s)
	if !is {
		t.Fatalf("%q is no address", s)
	}
	return u
}

// The chapter's section "Examples".
func TestExample(t *testing.T) {
	checkShown(t, parsed(t, "http://a.org/b/c/d#e"), "../x?y", "http://a.org/b/x?y")
}

// P11.1
func TestWhole(t *testing.T) {
	for _, ref := range []string{"a:", "a:b", "A:", "http:", "HTTP://a.org/", "data:,", "about:blank", "ftp://a.org", "x:y:z", "a1+-.:", "a.:", "a-b:c", "z:?#", "http://", "a:\x00", "a:é", "a: b"} {
		checkWhole(t, ref, true)
		for _, c := range []string{" ", "\t", "\n", "\r", "\x00", "\x1f", "\r\n", " \t \n "} {
			checkWhole(t, c+ref, true)
			checkWhole(t, ref+c, true)
			checkWhole(t, c+ref+c, true)
		}
		for _, c := range []string{"\t", "\n", "\r", "\r\n"} {
			for i := range len(ref) {
				checkWhole(t, ref[:i]+c+ref[i:], true)
			}
		}
	}
	for _, ref := range []string{"", " ", "\t\n", ":", "::", ":a", " :a", "a", "http", "1:2", "+a:", "-a:", ".a:", "1a:", "/a:b", "//a:b", "?a:b", "#a:b", "a/b:c", "a?b:c", "a#b:c", "a b:c", "a_b:c", "a%3Ab", "%61:b", "é:b", "aé:b", "a\x00:b", "a\x0b:b", "a\x7f:b", "./a:b", "a[:b", "[a]:b", "a@b:c"} {
		checkWhole(t, ref, false)
		checkWhole(t, " "+ref, false)
		checkWhole(t, ref+"\t", false)
		checkWhole(t, "\n"+ref+"\r", false)
	}
}

// P11.1: each byte ahead of a scheme, as its first one, within it, and in its colon's place.
func TestWholeEachByte(t *testing.T) {
	for n := range 256 {
		c := string([]byte{byte(n)})
		letter := n >= 'a' && n <= 'z' || n >= 'A' && n <= 'Z'
		ahead, gone := n <= ' ', n == '\t' || n == '\n' || n == '\r'
		inside := letter || n >= '0' && n <= '9' || n == '+' || n == '-' || n == '.'
		checkWhole(t, c+":", letter)
		checkWhole(t, c+"a:", letter || ahead)
		checkWhole(t, "a"+c+":", inside || gone || n == ':')
		checkWhole(t, "a"+c+"b:", inside || gone || n == ':')
		checkWhole(t, "a"+c+"b", n == ':')
		checkWhole(t, "a"+c, n == ':')
		checkWhole(t, "a:"+c, true)
	}
}

// P11.1: fragments that are there, empty, and not there.
func TestInherit(t *testing.T) {
	for _, x := range [][3]string{
		{"http://a.org/#x", "http://b.org/#y", "http://a.org/#x"},
		{"http://a.org/#x", "http://b.org/#", "http://a.org/#x"},
		{"http://a.org/#x", "http://b.org/", "http://a.org/#x"},
		{"http://a.org/#", "http://b.org/#y", "http://a.org/#"},
		{"http://a.org/#", "http://b.org/#", "http://a.org/#"},
		{"http://a.org/#", "http://b.org/", "http://a.org/#"},
		{"http://a.org/", "http://b.org/#y", "http://a.org/#y"},
		{"http://a.org/", "http://b.org/#", "http://a.org/#"},
		{"http://a.org/", "http://b.org/", "http://a.org/"},
		{"https://u:p@a.org:81/b/c?d", "http://v:q@b.org:82/e?f#g?h#i", "https://u:p@a.org:81/b/c?d#g?h#i"},
		{"http://a.org/", "data:b#c", "http://a.org/#c"},
		{"data:b", "http://a.org/#c", "data:b#c"},
		{"data:b?", "about:c?d#e", "data:b?#e"},
		{"blob:#", "about:#e", "blob:#"},
	} {
		u, from := parsed(t, x[0]), parsed(t, x[1])
		if got := show.Show(join.Inherit(u, from)); got != x[2] {
			t.Errorf("Inherit(%q, %q) = %q, want %q", x[0], x[1], got, x[2])
		}
		checkInherit(t, u, from)
		checkInherit(t, from, u)
		checkInherit(t, u, u)
	}
}

// mayNots are addresses that may not be: the zero one, and ones with one part wrong alone.
func mayNots(t *testing.T) []api.Url {
	all := []api.Url{{}, {Port: -1}, {Scheme: "http"}, {Scheme: "ftp", User: "u", Opaque: "x y", Path: []string{"..", "?"}, Query: "q", Frag: "f"}}
	for _, s := range []string{"http://u:p@a.org:81/b/c?d#e", "https://a.org/", "data:b?c#d", "about:"} {
		for _, change := range []func(u *api.Url){
			func(u *api.Url) { u.Scheme = "" },
			func(u *api.Url) { u.Scheme = "ftp" },
			func(u *api.Url) { u.Scheme = strings.ToUpper(u.Scheme) },
			func(u *api.Url) { u.User = "x:" },
			func(u *api.Url) { u.Pass = "x@" },
			func(u *api.Url) { u.Host.Name = "A.org" },
			func(u *api.Url) { u.Host.Num = 1 },
			func(u *api.Url) { u.Host.Kind = api.HoKinds },
			func(u *api.Url) { u.Port = 65536 },
			func(u *api.Url) { u.Port = -2 },
			func(u *api.Url) { u.Path = []string{"x", "..", "y"} },
			func(u *api.Url) { u.Path = []string{"x y", "z"} },
			func(u *api.Url) { u.Path = []string{"x/y", "z"} },
			func(u *api.Url) { u.Opaque = "x?" },
			func(u *api.Url) { u.Query, u.HasQuery = "x", false },
			func(u *api.Url) { u.Query, u.HasQuery = "'", true },
			func(u *api.Url) { u.Frag, u.HasFrag = "x", false },
			func(u *api.Url) { u.Frag, u.HasFrag = "`", true },
		} {
			u := parsed(t, s)
			change(&u)
			if url.May(u) {
				t.Fatalf("%s may be", brief(u))
			}
			all = append(all, u)
		}
	}
	return all
}

// P11.1: of addresses that may not be, too, all that is not the fragment stays.
func TestInheritMayNot(t *testing.T) {
	all := append(mayNots(t), parsed(t, "http://a.org/b?c#d"), parsed(t, "http://a.org/b?c#"), parsed(t, "data:b"))
	for _, u := range all {
		for _, from := range all {
			checkInherit(t, u, from)
		}
	}
}

// A kind is an address beside which texts stand, part by part: its path, that up to its last slash, and that up to the slash ahead of it.
type kind struct{ scheme, door, path, dir, up, query, frag string }

func (k kind) text() string { return k.scheme + k.door + k.path + k.query + k.frag }

// in puts an address's parts in place of their names.
func (k kind) in(s string) string {
	return strings.NewReplacer("SCHEME", k.scheme, "DOOR", k.scheme+k.door, "PATH", k.path, "DIR", k.dir, "UP", k.up, "QUERY", k.query).Replace(s)
}

// kinds are addresses of the web, put together of parts.
func kinds() []kind {
	var all []kind
	for _, scheme := range []string{"http:", "https:"} {
		for _, door := range []string{"//a.org", "//u@a.org", "//:p@[1::2]:0", "//u:p@127.0.0.1:81", "//%3A:%40@a.org:8080"} {
			for _, p := range [][3]string{{"/", "/", "/"}, {"/b", "/", "/"}, {"/b/", "/b/", "/"}, {"/b/c", "/b/", "/"}, {"/b/c/d", "/b/c/", "/b/"}, {"/b/c/", "/b/c/", "/b/"}, {"//", "//", "/"}, {"//b", "//", "/"}, {"/b//", "/b//", "/b/"}, {"/.../%20%2f/:@", "/.../%20%2f/", "/.../"}} {
				for _, query := range []string{"", "?", "?q/../?"} {
					for _, frag := range []string{"", "#", "#f/../#?"} {
						all = append(all, kind{scheme, door, p[0], p[1], p[2], query, frag})
					}
				}
			}
		}
	}
	return all
}

// places are texts, and what they tell beside an address of the web.
func places() map[string]string {
	return map[string]string{
		// Nothing, and what is trimmed.
		"": "DOORPATHQUERY", " ": "DOORPATHQUERY", " \t\r\n\x00\x1f ": "DOORPATHQUERY",
		// A query, and a fragment.
		"?": "DOORPATH?", "?y": "DOORPATH?y", "?y?z": "DOORPATH?y?z", "?/../x": "DOORPATH?/../x", "?x:y": "DOORPATH?x:y",
		"#": "DOORPATHQUERY#", "#z": "DOORPATHQUERY#z", "#z#y": "DOORPATHQUERY#z#y", "#/../x": "DOORPATHQUERY#/../x", "#x:y": "DOORPATHQUERY#x:y",
		"?#": "DOORPATH?#", "?y#": "DOORPATH?y#", "?#z": "DOORPATH?#z", "?y#z": "DOORPATH?y#z",
		"#?": "DOORPATHQUERY#?", "#z?y": "DOORPATHQUERY#z?y", "#?y#z": "DOORPATHQUERY#?y#z", " ? y # z ": "DOORPATH?%20y%20#%20z",
		// One slash.
		"/": "DOOR/", "/x": "DOOR/x", "/x/": "DOOR/x/", "/x//y": "DOOR/x//y", "/x//": "DOOR/x//", "/x:y": "DOOR/x:y", "/x y": "DOOR/x%20y",
		"/.": "DOOR/", "/..": "DOOR/", "/./x": "DOOR/x", "/../../x": "DOOR/x", "/x/..": "DOOR/", "/x/../y/.": "DOOR/y/", "/.//x": "DOOR//x", "/%2e%2E/x": "DOOR/x",
		"/?": "DOOR/?", "/?y": "DOOR/?y", "/#": "DOOR/#", "/#z": "DOOR/#z", "/x?y#z": "DOOR/x?y#z", "/x#z?y": "DOOR/x#z?y",
		// No slash at the beginning.
		"x": "DOORDIRx", "x/": "DOORDIRx/", "x/y": "DOORDIRx/y", "x//y": "DOORDIRx//y", "x//": "DOORDIRx//", "x///y": "DOORDIRx///y", "x://y/:": "",
		"x?": "DOORDIRx?", "x?y": "DOORDIRx?y", "x#": "DOORDIRx#", "x#z": "DOORDIRx#z", "x?#": "DOORDIRx?#", "x?y#z": "DOORDIRx?y#z", "x#z?y": "DOORDIRx#z?y",
		":": "DOORDIR:", ":x": "DOORDIR:x", "1:x": "DOORDIR1:x", "x y:z": "DOORDIRx%20y:z", "x/y:z": "DOORDIRx/y:z", "x?y:z": "DOORDIRx?y:z", "x#y:z": "DOORDIRx#y:z", "@x:81": "DOORDIR@x:81", "\\x\\y": "DOORDIR\\x\\y",
		// Dots.
		".": "DOORDIR", "./": "DOORDIR", "./x": "DOORDIRx", "./x:y": "DOORDIRx:y", "x/.": "DOORDIRx/", "x/./y": "DOORDIRx/y", ".//x": "DOORDIR/x",
		"..": "DOORUP", "../": "DOORUP", "../x": "DOORUPx", "../x/": "DOORUPx/", "x/..": "DOORDIR", "x/../y": "DOORDIRy", "x/../..": "DOORUP", "../..//x": "DOOR//x",
		"../../..": "DOOR/", "../../../x": "DOOR/x", "x/../../../../../y/": "DOOR/y/", "../../../../../../../..": "DOOR/", "../../../../..//x": "DOOR//x",
		"...": "DOORDIR...", ".x": "DOORDIR.x", "..x": "DOORDIR..x", "x.": "DOORDIRx.", ".../x": "DOORDIR.../x", ". .": "DOORDIR.%20.", ". ": "DOORDIR",
		".?y": "DOORDIR?y", ".#z": "DOORDIR#z", "..?y#z": "DOORUP?y#z", "..#z?..": "DOORUP#z?..", "x?../y": "DOORDIRx?../y", "x#../y": "DOORDIRx#../y",
		"%2e": "DOORDIR", "%2E/x": "DOORDIRx", ".%2e": "DOORUP", "%2e.": "DOORUP", "%2E%2e/x": "DOORUPx", "x/%2e%2e": "DOORDIR", "%2e%2e%2e": "DOORDIR%2e%2e%2e", "%252e": "DOORDIR%252e", "%2f": "DOORDIR%2f", "..%2fx": "DOORDIR..%2fx",
		// Two slashes, and a host.
		"//b.net": "SCHEME//b.net/", "//b.net/": "SCHEME//b.net/", "//B.Net/x/../y?z#w": "SCHEME//b.net/y?z#w", "//v:q@b.net:82/x": "SCHEME//v:q@b.net:82/x", "//[::1]//x": "SCHEME//[::1]//x", "//1.2.3.4": "SCHEME//1.2.3.4/", "//b.net:/": "SCHEME//b.net/", "//b.net?y": "SCHEME//b.net/?y", "//b.net#z": "SCHEME//b.net/#z", "//..": "", "//.": "",
		"//": "", "///": "", "///x": "", "////x": "", "//?y": "", "//#z": "", "//@": "", "//u@/x": "", "//:81": "", "//b.net:65536": "", "//b.net:8x": "", "//b c/": "", "//1.2.3": "", "//[1]": "", "// b.net": "", "//http:b.net": "", "//http://b.net": "SCHEME//http//b.net",
		// A scheme.
		"http://b.net": "http://b.net/", "HTTP://v:q@B.net:80/x/../y?z#w": "http://v:q@b.net/y?z#w", "https://b.net:80": "https://b.net:80/", "https://b.net:443": "https://b.net/", "http://b.net/..": "http://b.net/",
		"data:x y": "data:x%20y", "about:blank": "about:blank", "About:": "about:", "blob:../x?y#z": "blob:../x?y#z", "data:?y": "data:?y", "data:#z": "data:#z", "data://b.net/..": "data://b.net/..",
		"ftp://b.net/": "", "mailto:x": "", "x:y": "", "x:": "", "x:/y": "", "file:///x": "", "javascript:x": "",
		"http:": "", "http:x": "", "http:/x": "", "http://": "", "http:///x": "", "https:?y": "", "http:#z": "", "http://b.net:65536": "", "http://b c": "", "https://[::": "",
		// What is left off ahead, behind, and within.
		" x ": "DOORDIRx", "\nx?y\t": "DOORDIRx?y", "\t.\n.\r/x": "DOORUPx", "x\t\n\ry": "DOORDIRxy", "/\t/b.net": "SCHEME//b.net/", "/\n/": "", " //b.net ": "SCHEME//b.net/", "ht\ntp:/\r/b.net": "http://b.net/", "\x00http://b.net\x1f": "http://b.net/", "x\x00y": "DOORDIRx%00y", "x\x0by": "DOORDIRx%0By", "h ttp://b.net": "DOORDIRh%20ttp://b.net", "/ /x": "DOOR/%20/x", "a\t:b": "", "?\t": "DOORPATH?", "#\n": "DOORPATHQUERY#",
		// Bytes that are encoded.
		"é": "DOORDIR%C3%A9", "/é/\xff": "DOOR/%C3%A9/%FF", "?é": "DOORPATH?%C3%A9", "#é": "DOORPATHQUERY#%C3%A9", "é?é#é": "DOORDIR%C3%A9?%C3%A9#%C3%A9",
		"x '\"<>`^{}|": "DOORDIRx%20%27%22%3C%3E%60%5E%7B%7D|", "? '\"<>`^{}|": "DOORPATH?%20%27%22%3C%3E`^{}|", "# '\"<>`^{}|": "DOORPATHQUERY#%20'%22%3C%3E%60^{}|", "%": "DOORDIR%", "%zz%20?%20#%20": "DOORDIR%zz%20?%20#%20",
	}
}

// P11.2, P11.3: texts of each kind beside addresses of the web of each kind.
func TestResolve(t *testing.T) {
	texts := places()
	for ref, want := range texts {
		if strings.Contains(want, "DOOR") || strings.Contains(want, "SCHEME") {
			checkWhole(t, ref, false)
		}
	}
	for i, k := range kinds() {
		base := parsed(t, k.text())
		for ref, want := range texts {
			want = k.in(want)
			u, is := join.Resolve(base, ref)
			if got := show.Show(u); got != want || is != (want != "") || !is && !url.Same(u, api.Url{}) {
				t.Errorf("%q beside %q is %q, %v, want %q", ref, k.text(), got, is, want)
			}
			if is != url.May(u) {
				t.Errorf("%q beside %q may be: %v", ref, k.text(), !is)
			}
			if i%37 == 0 {
				checkResolve(t, base, ref)
			}
		}
	}
}

// P11.2: a scheme's own port behind two slashes.
func TestOwnPort(t *testing.T) {
	web, safe := parsed(t, "http://a.org:81/b"), parsed(t, "https://a.org:81/b")
	checkShown(t, web, "//b.net:80/x", "http://b.net/x")
	checkShown(t, web, "//b.net:443/x", "http://b.net:443/x")
	checkShown(t, safe, "//b.net:80/x", "https://b.net:80/x")
	checkShown(t, safe, "//b.net:443/x", "https://b.net/x")
	checkShown(t, safe, "//b.net/x", "https://b.net/x")
}

// P11.2: beside what is opaque there are whole addresses alone.
func TestOpaque(t *testing.T) {
	for _, scheme := range []string{"about:", "data:", "blob:"} {
		for _, rest := range []string{"", "b", "//a.org/b/c", "http://a.org/b", "b?c", "b#d", "?", "#", "/b/c?d#e"} {
			base := parsed(t, scheme+rest)
			for ref, want := range places() {
				if !wantWhole(ref) {
					want = ""
				}
				checkShown(t, base, ref, want)
			}
			base.Path = []string{}
			checkShown(t, base, "x", "")
			checkShown(t, base, "data:x", "data:x")
		}
	}
}

// P11.2: beside what may not be there is none, whatever the text.
func TestMayNot(t *testing.T) {
	for _, base := range mayNots(t) {
		for ref := range places() {
			checkShown(t, base, ref, "")
		}
	}
}

// P11.2: the usual texts beside an address, and what they tell.
func TestUsual(t *testing.T) {
	base := parsed(t, "http://a/b/c/d;p?q")
	for ref, want := range map[string]string{
		"g": "http://a/b/c/g", "./g": "http://a/b/c/g", "g/": "http://a/b/c/g/", "/g": "http://a/g", "//g": "http://g/",
		"?y": "http://a/b/c/d;p?y", "g?y": "http://a/b/c/g?y", "#s": "http://a/b/c/d;p?q#s", "g#s": "http://a/b/c/g#s", "g?y#s": "http://a/b/c/g?y#s",
		";x": "http://a/b/c/;x", "g;x": "http://a/b/c/g;x", "g;x?y#s": "http://a/b/c/g;x?y#s", "": "http://a/b/c/d;p?q",
		".": "http://a/b/c/", "./": "http://a/b/c/", "..": "http://a/b/", "../": "http://a/b/", "../g": "http://a/b/g",
		"../..": "http://a/", "../../": "http://a/", "../../g": "http://a/g", "../../../g": "http://a/g", "../../../../g": "http://a/g",
		"/./g": "http://a/g", "/../g": "http://a/g", "g.": "http://a/b/c/g.", ".g": "http://a/b/c/.g", "g..": "http://a/b/c/g..", "..g": "http://a/b/c/..g",
		"./../g": "http://a/b/g", "./g/.": "http://a/b/c/g/", "g/./h": "http://a/b/c/g/h", "g/../h": "http://a/b/c/h", "g;x=1/./y": "http://a/b/c/g;x=1/y", "g;x=1/../y": "http://a/b/c/y",
		"g?y/./x": "http://a/b/c/g?y/./x", "g?y/../x": "http://a/b/c/g?y/../x", "g#s/./x": "http://a/b/c/g#s/./x", "g#s/../x": "http://a/b/c/g#s/../x",
		"g:h": "", "http:g": "",
	} {
		checkShown(t, base, ref, want)
	}
}

// P11.2: against the library's own addresses, at texts of which it tells the same.
func TestLibrary(t *testing.T) {
	// The library takes an empty segment at a path's beginning away, does not ask for dots that are encoded, and leaves the fragment beside nothing.
	segments := []string{"x", ".", "..", "y-z", "%20", "...", "~", "x;y"}
	for _, from := range []string{"http://a.org/", "https://u:p@a.org:81/b/c/d?q", "http://a.org/b/c/?", "http://127.0.0.1/b?q#f"} {
		base := parsed(t, from)
		other, err := neturl.Parse(from)
		if err != nil {
			t.Fatal(err)
		}
		eachOf(segments, 4, func(l []string) {
			if len(l) == 0 {
				return
			}
			for _, ref := range []string{strings.Join(l, "/"), "/" + strings.Join(l, "/"), strings.Join(l, "/") + "/?y=z", "//b.net/" + strings.Join(l, "/") + "#f"} {
				r, err := neturl.Parse(ref)
				if err != nil {
					t.Fatal(err)
				}
				checkSame(t, base, ref, other.ResolveReference(r).String())
			}
		})
	}
}

// checkSame is P11.2 of an address and a text, by another text of what is told.
func checkSame(t *testing.T, base api.Url, ref, want string) {
	t.Helper()
	got, is := join.Resolve(base, ref)
	if w, wantIs := url.Parse(want); !is || !wantIs || !url.Same(got, w) {
		t.Errorf("%q beside %s is %s, want %q", ref, brief(base), brief(got), want)
	}
}

// eachOf calls f with all lists of up to n of some pieces.
func eachOf(pieces []string, n int, f func(l []string)) {
	var more func(l []string)
	more = func(l []string) {
		f(l)
		if len(l) == n {
			return
		}
		for _, p := range pieces {
			more(append(slices.Clone(l), p))
		}
	}
	more(nil)
}

// P11.1 to P11.3: all short texts of some pieces.
func TestPieces(t *testing.T) {
	web, other := parsed(t, "https://u@a.org:81/b/c/d?q#f"), parsed(t, "data:b?c#d")
	check := func(l []string) {
		ref := strings.Join(l, "")
		checkWhole(t, ref, wantWhole(ref))
		checkResolve(t, web, ref)
		if len(l) < 4 {
			checkResolve(t, other, ref)
		}
	}
	eachOf([]string{".", "/", "?", "#", ":", "a", "%2e", "\t"}, 5, check)
	eachOf([]string{"..", "/", "http:", "data:", "b", "@", " ", "é"}, 4, check)
}

// goods are addresses of each kind.
func goods(t *testing.T) []api.Url {
	var all []api.Url
	for _, s := range []string{"http://a.org", "https://u:p@a.org:8443/b//c?d#e", "http://:p@[::1]:0//?#", "https://u@127.0.0.1:80/%20/b#f", "about:blank", "data:a,b?c#d", "blob:?"} {
		all = append(all, parsed(t, s))
	}
	return all
}

// P11.2, P11.3: each byte in each part of a text.
func TestEachByte(t *testing.T) {
	for n := range 256 {
		c := string([]byte{byte(n)})
		for _, base := range goods(t) {
			for _, ref := range []string{c, c + "a", "a" + c, "a" + c + "b", "a/" + c + "/b", "/" + c, "/a" + c + "b", "/" + c + "/b", "." + c + "/b", "?a" + c + "b", "#a" + c + "b", "a" + c + "b?c" + c + "d#e" + c + "f", "//b" + c + "c.net/", "//b.net/" + c, "h" + c + "://b.net", "http" + c + "//b.net", "http:" + c + "/b.net", "data:a" + c + "b", "?" + c, "#" + c} {
				checkResolve(t, base, ref)
				checkWhole(t, ref, wantWhole(ref))
			}
		}
	}
}

// P11.3: a whole address is told the same beside each, whatever it is.
func TestWholeBesideEach(t *testing.T) {
	bases := goods(t)
	for i, k := range kinds() {
		if i%29 == 0 {
			bases = append(bases, parsed(t, k.text()))
		}
	}
	for ref := range places() {
		if !wantWhole(ref) {
			continue
		}
		want, wantIs := url.Parse(ref)
		for _, base := range bases {
			if got, is := join.Resolve(base, ref); is != wantIs || !url.Same(got, want) {
				t.Errorf("Resolve(%s, %q) = %s, %v", brief(base), ref, brief(got), is)
			}
		}
	}
	for _, base := range bases {
		for _, u := range bases {
			checkShown(t, base, show.Show(u), show.Show(u))
		}
	}
}

// P11.3: nothing beside an address of the web is it without its fragment; and that fragment tells nothing at all.
func TestNothingBeside(t *testing.T) {
	refs := []string{"", " ", "\t\r\n", "?", "#", "x?y#z", "../x", "/x", "//b.net", "#z"}
	for _, k := range kinds() {
		base := parsed(t, k.text())
		bare := base
		bare.Frag, bare.HasFrag = "", false
		for i, ref := range refs {
			got, is := join.Resolve(base, ref)
			other, otherIs := join.Resolve(bare, ref)
			if !is || !otherIs || !url.Same(got, other) {
				t.Errorf("%q beside %q is %s, and %s without the fragment", ref, k.text(), brief(got), brief(other))
			}
			if i < 3 && !url.Same(got, bare) {
				t.Errorf("nothing beside %q is %s", k.text(), brief(got))
			}
		}
	}
}

// P1: long texts and addresses.
func TestLong(t *testing.T) {
	for _, c := range []string{"a", ".", "/", "../", "./", "a/", "?", "#", ":", " ", "\t", "%2e/", "\xff", "é", "%"} {
		s := strings.Repeat(c, 1<<14)
		checkWhole(t, s, wantWhole(s))
		checkWhole(t, s+":", wantWhole(s+":"))
		for _, base := range goods(t) {
			for _, ref := range []string{s, "/" + s, "//" + s, "//b.net/" + s, "?" + s, "#" + s, "x" + s, s + "x:", "http:" + s, "data:" + s} {
				checkResolve(t, base, ref)
			}
		}
	}
	s := strings.Repeat("b/", 1<<14)
	base := parsed(t, "http://a.org/"+s+"?"+s+"#"+s)
	for _, ref := range []string{"", "x", "/x", "?x", "#x", strings.Repeat("../", 1<<14) + "x", strings.Repeat("../", 1<<14-1) + "x", strings.Repeat("../", 1<<15), s} {
		checkResolve(t, base, ref)
	}
	checkInherit(t, base, parsed(t, "http://a.org/#"+s))
	checkInherit(t, parsed(t, "http://a.org/"+s), base)
}

// texts are all texts that an address holds.
func texts(u api.Url) []string {
	return append([]string{u.Scheme, u.User, u.Pass, u.Host.Name, u.Opaque, u.Query, u.Frag}, u.Path...)
}

// shares tells whether a text lies in another one's memory.
func shares(a, b string) bool {
	if a == "" || b == "" {
		return false
	}
	from, start := uintptr(unsafe.Pointer(unsafe.StringData(a))), uintptr(unsafe.Pointer(unsafe.StringData(b)))
	return from >= start && from < start+uintptr(len(b))
}

// R3: no text of an answer lies in what was handed in.
func TestOwnTexts(t *testing.T) {
	check := func(got api.Url, from ...string) {
		t.Helper()
		for _, s := range texts(got) {
			for _, x := range from {
				if shares(s, x) {
					t.Errorf("%q of %s lies in %q", s, brief(got), x)
				}
			}
		}
	}
	for _, u := range append(goods(t), mayNots(t)...) {
		for ref := range places() {
			got, _ := join.Resolve(u, ref)
			check(got, append(texts(u), ref)...)
		}
		for _, from := range append(goods(t), mayNots(t)...) {
			check(join.Inherit(u, from), append(texts(u), texts(from)...)...)
		}
	}
}

// checkSegments changes what is answered, and then what was handed in.
func checkSegments(t *testing.T, u api.Url, f func(api.Url) api.Url) {
	t.Helper()
	path := slices.Clone(u.Path)
	// There is room behind the end of what is handed in.
	room := append(slices.Clone(u.Path), "behind", "further", "last")
	before := slices.Clone(room)
	u.Path = room[:len(path)]
	one, two := f(u), f(u)
	want := slices.Clone(two.Path)
	for _, l := range [][]string{one.Path, append(one.Path, "more")} {
		for i := range l {
			l[i] = "changed"
		}
	}
	if !slices.Equal(room, before) || !slices.Equal(two.Path, want) {
		t.Errorf("what was handed in became %q, another answer %q", room, two.Path)
	}
	for i := range room {
		room[i] = "changed"
	}
	if !slices.Equal(two.Path, want) {
		t.Errorf("what was answered became %q", two.Path)
	}
}

// R3: segments are the caller's own.
func TestOwnSegments(t *testing.T) {
	for _, u := range append(goods(t), mayNots(t)...) {
		for ref := range places() {
			checkSegments(t, u, func(base api.Url) api.Url {
				got, _ := join.Resolve(base, ref)
				return got
			})
		}
		for _, other := range goods(t) {
			checkSegments(t, u, func(u api.Url) api.Url { return join.Inherit(u, other) })
			checkSegments(t, u, func(from api.Url) api.Url { return join.Inherit(other, from) })
		}
	}
}

// R3, R5: what is handed in stays as it was, and what was asked before changes nothing.
func TestAskedAgain(t *testing.T) {
	for range 3 {
		for _, u := range append(goods(t), mayNots(t)...) {
			before := u
			before.Path = slices.Clone(u.Path)
			for ref, want := range places() {
				checkResolve(t, u, ref)
				checkWhole(t, ref, wantWhole(ref))
				if want == "" {
					checkInherit(t, u, before)
				}
			}
			if !url.Same(u, before) {
				t.Errorf("%s became %s", brief(before), brief(u))
			}
		}
	}
}

// FuzzBeside holds the promises against any address and text: its seeds run with the other tests.
func FuzzBeside(f *testing.F) {
	for ref := range places() {
		f.Add("https://u:p@a.org:81/b//c?d#e", ref, "b/c", 81)
		f.Add("data:b", ref, "..", -1)
	}
	f.Fuzz(func(t *testing.T, from, ref, segments string, port int) {
		base, is := url.Parse(from)
		checkResolve(t, base, ref)
		checkWhole(t, ref, wantWhole(ref))
		got, told := join.Resolve(base, ref)
		checkInherit(t, got, base)
		checkInherit(t, base, got)
		if told {
			checkShown(t, base, show.Show(got), show.Show(got))
		}
		if is && show.Door(base) != "" {
			checkShown(t, base, "", show.Show(show.Bare(base)))
		}
		other := base
		other.Path, other.Port = strings.Split(segments, "/"), port
		checkResolve(t, other, ref)
		checkInherit(t, other, base)
		checkInherit(t, base, other)
		checkInherit(t, other, api.Url{Frag: ref, HasFrag: port > 0})
	})
}

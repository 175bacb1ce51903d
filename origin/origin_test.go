package origin_test

import (
	"fmt"
	"math"
	neturl "net/url"
	"slices"
	"strings"
	"testing"
	"unsafe"

	"postmark/api"
	"postmark/host"
	"postmark/origin"
	"postmark/show"
	"postmark/url"
)

const null = "null"

var opaque = api.Origin{Opaque: true}

// ports are the schemes of the web, and their own ports.
var ports = map[string]int{"http": 80, "https": 443}

// wantOf is the first half of P12.1.
func wantOf(u api.Url) api.Origin {
	if _, web := ports[u.Scheme]; !web || !url.May(u) {
		return opaque
	}
	return api.Origin{Scheme: u.Scheme, Host: u.Host, Port: u.Port}
}

// wantMay is the chapter's section "Words".
func wantMay(o api.Origin) bool {
	if o.Opaque {
		return o.Scheme == "" && o.Host.Kind == 0 && o.Host.Name == "" && o.Host.Num == 0 && o.Host.Six == [8]int{} && o.Port == 0
	}
	own, web := ports[o.Scheme]
	return web && host.May(o.Host) && o.Port >= -1 && o.Port <= 65535 && o.Port != own
}

// wantSame is P12.2, part by part.
func wantSame(a, b api.Origin) bool {
	return wantMay(a) && wantMay(b) && !a.Opaque && !b.Opaque && a.Scheme == b.Scheme &&
		a.Host.Kind == b.Host.Kind && a.Host.Name == b.Host.Name && a.Host.Num == b.Host.Num && a.Host.Six == b.Host.Six && a.Port == b.Port
}

// wantShow is the first half of P12.3.
func wantShow(o api.Origin) string {
	switch {
	case o.Opaque || !wantMay(o):
		return null
	case o.Port == -1:
		return fmt.Sprintf("%s://%s", o.Scheme, host.Show(o.Host))
	}
	return fmt.Sprintf("%s://%s:%d", o.Scheme, host.Show(o.Host), o.Port)
}

// wantTrust is the other half.
func wantTrust(u api.Url) bool {
	return url.May(u) && (u.Scheme == "https" || u.Scheme == "http" && host.Local(u.Host))
}

// brief is what a test tells of an address, or an origin, which may be long.
func brief(x any) string {
	s := fmt.Sprintf("%+v", x)
	return s[:min(len(s), 400)]
}

// checkAddress is P12.1 to P12.4 of one address.
func checkAddress(t *testing.T, u api.Url) {
	t.Helper()
	o := origin.Of(u)
	if want := wantOf(u); o != want {
		t.Errorf("Of(%s) = %s, want %s", brief(u), brief(o), brief(want))
	}
	if got, want := origin.Trust(u), wantTrust(u); got != want {
		t.Errorf("Trust(%s) = %v, want %v", brief(u), got, want)
	}
	if got := origin.Both(u, u); got == o.Opaque {
		t.Errorf("Both of %s and itself = %v", brief(u), got)
	}
	if !origin.May(o) {
		t.Errorf("Of(%s) = %s, which may not be", brief(u), brief(o))
	}
	checkOrigin(t, o)
}

// checkOrigin is P12.1 to P12.4 of one origin.
func checkOrigin(t *testing.T, o api.Origin) {
	t.Helper()
	may, shown := origin.May(o), origin.Show(o)
	if want := wantMay(o); may != want {
		t.Errorf("May(%s) = %v, want %v", brief(o), may, want)
	}
	if want := wantShow(o); shown != want {
		t.Errorf("Show(%s) = %.200q, want %.200q", brief(o), shown, want)
	}
	if got, want := origin.Same(o, o), wantSame(o, o); got != want {
		t.Errorf("Same of %s and itself = %v, want %v", brief(o), got, want)
	}
	if shown != null {
		checkAgain(t, o, shown)
	}
}

// checkAgain is P12.4: what is shown tells its origin again.
func checkAgain(t *testing.T, o api.Origin, shown string) {
	t.Helper()
	u, is := url.Parse(shown)
	if got := origin.Of(u); !is || got != o || !origin.Same(got, o) {
		t.Errorf("%.200q, shown of %s, is an address: %v, and its origin %s", shown, brief(o), is, brief(got))
	}
}

// checkTwo is P12.2 and P12.4 of two origins.
func checkTwo(t *testing.T, a, b api.Origin) {
	t.Helper()
	got := origin.Same(a, b)
	if want := wantSame(a, b); got != want || origin.Same(b, a) != want {
		t.Errorf("Same(%s, %s) = %v, the other way round %v, want %v", brief(a), brief(b), got, origin.Same(b, a), want)
	}
	x, y := origin.Show(a), origin.Show(b)
	if (x == y && x != null) != got {
		t.Errorf("%s and %s are shown as %.200q and %.200q, but the same: %v", brief(a), brief(b), x, y, got)
	}
}

// checkBoth is P12.2 of two addresses.
func checkBoth(t *testing.T, a, b api.Url) {
	t.Helper()
	got, want := origin.Both(a, b), wantSame(wantOf(a), wantOf(b))
	if got != want || origin.Both(b, a) != want {
		t.Errorf("Both(%s, %s) = %v, the other way round %v, want %v", brief(a), brief(b), got, origin.Both(b, a), want)
	}
	checkTwo(t, origin.Of(a), origin.Of(b))
}

// checkText is P12.1 and P12.3 of an address's text.
func checkText(t *testing.T, s, want string, trust bool) {
	t.Helper()
	u := parsed(t, s)
	if got := origin.Show(origin.Of(u)); got != want {
		t.Errorf("the origin of %.200q is %.200q, want %.200q", s, got, want)
	}
	if got := origin.Trust(u); got != trust {
		t.Errorf("%.200q is to be trusted: %v, want %v", s, got, trust)
	}
	checkAddress(t, u)
}

func parsed(t *testing.T, s string) api.Url {
	t.Helper()
	u, is := url.Parse(s)
	if !is {
		t.Fatalf("%q is no address", s)
	}
	return u
}

// The chapter's section "Examples".
func TestExamples(t *testing.T) {
	checkText(t, "https://u@a.org:8443/x", "https://a.org:8443", true)
	checkText(t, "data:,", null, false)
}

// hostTexts are hosts, what they are shown as, and whether they are one's own.
var hostTexts = []struct {
	text, shown string
	local       bool
}{
	{"a.org", "a.org", false},
	{"A.Org", "a.org", false},
	{"a", "a", false},
	{"_-0.a", "_-0.a", false},
	{"www.a.org", "www.a.org", false},
	{"localhost", "localhost", true},
	{"LocalHost", "localhost", true},
	{"x.localhost", "x.localhost", true},
	{"x.y.LOCALHOST", "x.y.localhost", true},
	{"xlocalhost", "xlocalhost", false},
	{"x-localhost", "x-localhost", false},
	{"localhost.org", "localhost.org", false},
	{"localhost.localdomain", "localhost.localdomain", false},
	{"0.0.0.0", "0.0.0.0", false},
	{"1.2.3.4", "1.2.3.4", false},
	{"126.255.255.255", "126.255.255.255", false},
	{"127.0.0.0", "127.0.0.0", true},
	{"127.0.0.1", "127.0.0.1", true},
	{"127.255.255.255", "127.255.255.255", true},
	{"128.0.0.0", "128.0.0.0", false},
	{"255.255.255.255", "255.255.255.255", false},
	{"[::]", "[::]", false},
	{"[::1]", "[::1]", true},
	{"[0:0:0:0:0:0:0:1]", "[::1]", true},
	{"[0::0001]", "[::1]", true},
	{"[::2]", "[::2]", false},
	{"[1::1]", "[1::1]", false},
	{"[1:2:3:4:5:6:7:aB]", "[1:2:3:4:5:6:7:ab]", false},
}

// What stands ahead of a host, and behind a port: an origin does not hang on them.
var (
	users   = []string{"", "@", "u@", "u:@", ":p@", "u:p@", "%3A:%40@", "b.net:81@", "https:@"}
	tails   = []string{"", "/", "//", "/b/c", "/b/", "/../:81", "/@b.net:81/"}
	queries = []string{"", "?", "?q", "?@b.net:81/?"}
	frags   = []string{"", "#", "#f", "#@b.net:81/?#"}
)

// rests calls f with users, and with what stands behind a port.
func rests(f func(user, rest string)) {
	for _, user := range users {
		for _, tail := range tails {
			for _, query := range queries {
				for _, frag := range frags {
					f(user, tail+query+frag)
				}
			}
		}
	}
}

// P12.1, P12.3, P12.4: addresses of the web, put together of parts.
func TestWeb(t *testing.T) {
	for scheme, own := range ports {
		for _, h := range hostTexts {
			for port, shown := range map[string]string{"": "", ":": "", fmt.Sprint(":", own): "", fmt.Sprint(":00", own): "", fmt.Sprint(":", 80+443-own): fmt.Sprint(":", 80+443-own), ":0": ":0", ":1": ":1", ":00081": ":81", ":8443": ":8443", ":65535": ":65535"} {
				want, trust := scheme+"://"+h.shown+shown, scheme == "https" || h.local
				for _, user := range users {
					checkText(t, scheme+"://"+user+h.text+port, want, trust)
				}
				for _, tail := range tails {
					checkText(t, strings.ToUpper(scheme)+"://"+h.text+port+tail+"?q#f", want, trust)
				}
			}
			rests(func(user, rest string) {
				checkText(t, scheme+"://"+user+h.text+rest, scheme+"://"+h.shown, scheme == "https" || h.local)
			})
		}
	}
}

// opaques are texts of addresses of opaque schemes.
var opaques = []string{"about:", "about:blank", "about:blank?q#f", "data:", "data:,", "data:a,b?c#d", "data:https://a.org/", "blob:", "blob:https://a.org/x", "blob:http://localhost", "ABOUT:srcdoc", "Data:?", "blob:#", "data://localhost:81/"}

// P12.1, P12.3: opaque addresses.
func TestOpaque(t *testing.T) {
	for _, s := range opaques {
		checkText(t, s, null, false)
		if got := origin.Of(parsed(t, s)); got != opaque {
			t.Errorf("Of(%q) = %s", s, brief(got))
		}
		for _, s2 := range append(opaques, "https://a.org", "http://localhost") {
			checkBoth(t, parsed(t, s), parsed(t, s2))
			if origin.Both(parsed(t, s), parsed(t, s2)) {
				t.Errorf("%q and %q have one origin", s, s2)
			}
		}
	}
}

// changes are what makes addresses of the web that may be ones that may not be, one part wrong alone.
var changes = []func(u *api.Url){
	func(u *api.Url) { u.Scheme = "" },
	func(u *api.Url) { u.Scheme = "ftp" },
	func(u *api.Url) { u.Scheme = "data" },
	func(u *api.Url) { u.Scheme = "httpss" },
	func(u *api.Url) { u.Scheme += ":" },
	func(u *api.Url) { u.Scheme = strings.ToUpper(u.Scheme) },
	func(u *api.Url) { u.User = "x:" },
	func(u *api.Url) { u.User = "é" },
	func(u *api.Url) { u.Pass = "x@" },
	func(u *api.Url) { u.Pass = "\x00" },
	func(u *api.Url) { u.Host = api.Host{} },
	func(u *api.Url) { u.Host = api.Host{Kind: api.HoDomain, Name: "A.org"} },
	func(u *api.Url) { u.Host = api.Host{Kind: api.HoDomain, Name: "1.2.3.4"} },
	func(u *api.Url) { u.Host = api.Host{Kind: api.HoFour, Num: -1} },
	func(u *api.Url) { u.Host = api.Host{Kind: api.HoFour, Num: 1 << 32} },
	func(u *api.Url) { u.Host = api.Host{Kind: api.HoSix, Six: [8]int{7: 65536}} },
	func(u *api.Url) { u.Host.Kind = api.HoNone },
	func(u *api.Url) { u.Host.Kind = api.HoKinds },
	func(u *api.Url) { u.Host.Kind = -1 },
	func(u *api.Url) { u.Host.Name += "." },
	func(u *api.Url) { u.Host.Num -= 1 << 33 },
	func(u *api.Url) { u.Host.Six[3] = -1 },
	func(u *api.Url) { u.Port = ports[u.Scheme] },
	func(u *api.Url) { u.Port = 65536 },
	func(u *api.Url) { u.Port = -2 },
	func(u *api.Url) { u.Port = math.MinInt },
	func(u *api.Url) { u.Port = math.MaxInt },
	func(u *api.Url) { u.Path = nil },
	func(u *api.Url) { u.Path = []string{"x", "..", "y"} },
	func(u *api.Url) { u.Path = []string{"x y", "z"} },
	func(u *api.Url) { u.Path = []string{"x/y", "z"} },
	func(u *api.Url) { u.Opaque = "x" },
	func(u *api.Url) { u.Query, u.HasQuery = "x", false },
	func(u *api.Url) { u.Query, u.HasQuery = "'", true },
	func(u *api.Url) { u.Frag, u.HasFrag = "x", false },
	func(u *api.Url) { u.Frag, u.HasFrag = "`", true },
}

// goods are addresses of the web of each kind.
var goods = []string{"http://a.org", "https://a.org/", "https://u:p@a.org:8443/b//c?d#e", "http://:p@[::1]:0//?#", "https://[1::ab]:80", "https://u@127.0.0.1:80/%20/b#f", "http://128.0.0.1:443", "http://localhost", "http://u@x.localhost:65535?q"}

// mayNots are addresses that may not be: the zero one, and ones with one part wrong alone.
func mayNots(t *testing.T) []api.Url {
	all := []api.Url{{}, {Port: -1}, {Scheme: "http"}, {Scheme: "https", Port: -1, Path: []string{""}}, {Scheme: "data", Port: 0}, {Scheme: "data", Port: -1, Opaque: "?"}, {Scheme: "about", Port: -1, Host: api.Host{Kind: api.HoDomain, Name: "a.org"}}, {Scheme: "blob", Port: -1, Path: []string{""}}}
	for _, s := range goods {
		for _, change := range changes {
			u := parsed(t, s)
			change(&u)
			all = append(all, u)
		}
	}
	for _, u := range all {
		if url.May(u) {
			t.Fatalf("%s may be", brief(u))
		}
	}
	return all
}

// P12.1 to P12.3: addresses that may not be, though their schemes, hosts and ports may.
func TestMayNot(t *testing.T) {
	for _, u := range mayNots(t) {
		checkAddress(t, u)
		if o := origin.Of(u); o != opaque || origin.Trust(u) || origin.Both(u, u) {
			t.Errorf("%s comes from %s, trusted: %v, both: %v", brief(u), brief(o), origin.Trust(u), origin.Both(u, u))
		}
		for _, s := range goods {
			checkBoth(t, u, parsed(t, s))
		}
	}
}

// hosts are hosts of each kind that may be.
func hosts() []api.Host {
	return []api.Host{
		{Kind: api.HoDomain, Name: "a.org"}, {Kind: api.HoDomain, Name: "www.a.org"}, {Kind: api.HoDomain, Name: "a.or"}, {Kind: api.HoDomain, Name: "localhost"}, {Kind: api.HoDomain, Name: strings.Repeat("a", 100)}, {Kind: api.HoDomain, Name: null},
		{Kind: api.HoFour}, {Kind: api.HoFour, Num: 1}, {Kind: api.HoFour, Num: 127 << 24}, {Kind: api.HoFour, Num: 1<<32 - 1},
		{Kind: api.HoSix}, {Kind: api.HoSix, Six: [8]int{7: 1}}, {Kind: api.HoSix, Six: [8]int{0: 1}}, {Kind: api.HoSix, Six: [8]int{1, 2, 3, 4, 5, 6, 7, 65535}},
	}
}

// wrongHosts are hosts that may not be.
func wrongHosts() []api.Host {
	return []api.Host{
		{}, {Name: "a.org"}, {Num: 1}, {Six: [8]int{7: 1}}, {Kind: api.HoKinds, Name: "a.org"}, {Kind: -1},
		{Kind: api.HoDomain}, {Kind: api.HoDomain, Name: "A.org"}, {Kind: api.HoDomain, Name: ".a"}, {Kind: api.HoDomain, Name: "a..b"}, {Kind: api.HoDomain, Name: "1.2.3.4"}, {Kind: api.HoDomain, Name: "[::1]"}, {Kind: api.HoDomain, Name: "a.org:81"}, {Kind: api.HoDomain, Name: strings.Repeat("a", 101)}, {Kind: api.HoDomain, Name: "a", Num: 1}, {Kind: api.HoDomain, Name: "a", Six: [8]int{7: 1}},
		{Kind: api.HoFour, Num: -1}, {Kind: api.HoFour, Num: 1 << 32}, {Kind: api.HoFour, Num: 1, Name: "a"}, {Kind: api.HoFour, Num: 1, Six: [8]int{7: 1}},
		{Kind: api.HoSix, Six: [8]int{7: -1}}, {Kind: api.HoSix, Six: [8]int{65536}}, {Kind: api.HoSix, Num: 1}, {Kind: api.HoSix, Name: "a"},
	}
}

// wrongSchemes are texts that are no schemes of the web.
func wrongSchemes() []string {
	return []string{"", " ", "HTTP", "HTTPS", "Http", "http:", "https:", "http://", " http", "http ", "htt", "httpss", "ws", "wss", "ftp", "file", "data", "about", "blob", null, "http\x00", "\xff"}
}

// origins are ones that may be, and ones with one part wrong alone, and more.
func origins() []api.Origin {
	all := []api.Origin{{}, opaque, {Port: -1}, {Scheme: "http"}, {Scheme: "https"}, {Host: hosts()[0]}, {Scheme: "http", Port: -1}, {Host: hosts()[0], Port: -1}}
	for _, scheme := range []string{"http", "https"} {
		for _, h := range hosts() {
			for _, port := range []int{-1, 0, 1, 80, 443, 8443, 65535, 65536, -2} {
				all = append(all, api.Origin{Scheme: scheme, Host: h, Port: port}, api.Origin{Opaque: true, Scheme: scheme, Host: h, Port: port})
			}
		}
		for _, h := range wrongHosts() {
			all = append(all, api.Origin{Scheme: scheme, Host: h, Port: -1}, api.Origin{Scheme: scheme, Host: h, Port: 81})
		}
	}
	for _, scheme := range wrongSchemes() {
		all = append(all, api.Origin{Scheme: scheme, Host: hosts()[0], Port: -1}, api.Origin{Scheme: scheme, Host: hosts()[0], Port: 81}, api.Origin{Scheme: scheme}, api.Origin{Scheme: scheme, Port: -1})
	}
	return all
}

// P12.1: an opaque origin, and anything else beside.
func TestMayOpaque(t *testing.T) {
	if !origin.May(opaque) || origin.Show(opaque) != null || origin.Same(opaque, opaque) {
		t.Errorf("the opaque one may be: %v, is shown as %q, and the same as itself: %v", origin.May(opaque), origin.Show(opaque), origin.Same(opaque, opaque))
	}
	a := hosts()[0]
	for _, o := range []api.Origin{
		{},
		{Opaque: true, Scheme: "http"},
		{Opaque: true, Scheme: "https"},
		{Opaque: true, Scheme: "data"},
		{Opaque: true, Scheme: " "},
		{Opaque: true, Scheme: "\x00"},
		{Opaque: true, Host: a},
		{Opaque: true, Host: api.Host{Kind: api.HoFour}},
		{Opaque: true, Host: api.Host{Kind: -1}},
		{Opaque: true, Host: api.Host{Name: "a"}},
		{Opaque: true, Host: api.Host{Num: 1}},
		{Opaque: true, Host: api.Host{Six: [8]int{7: 1}}},
		{Opaque: true, Port: -1},
		{Opaque: true, Port: 1},
		{Opaque: true, Port: 80},
		{Opaque: true, Port: 65536},
		{Opaque: true, Port: math.MinInt},
		{Opaque: true, Scheme: "http", Host: a, Port: -1},
		{Opaque: true, Scheme: "https", Host: a, Port: 81},
		{Opaque: true, Scheme: "http", Host: a},
	} {
		if origin.May(o) || origin.Show(o) != null {
			t.Errorf("May(%s) = %v, Show = %q", brief(o), origin.May(o), origin.Show(o))
		}
		checkOrigin(t, o)
		checkTwo(t, o, opaque)
	}
	for i := range 8 {
		o := opaque
		o.Host.Six[i] = 1
		checkOrigin(t, o)
	}
}

// P12.1, P12.3: each port, and ones beyond.
func TestPorts(t *testing.T) {
	a := hosts()[0]
	for scheme, own := range ports {
		for port, may := range map[int]bool{-2: false, -1: true, 0: true, 80: own != 80, 443: own != 443, 81: true, 65535: true, 65536: false} {
			if o := (api.Origin{Scheme: scheme, Host: a, Port: port}); origin.May(o) != may {
				t.Errorf("May(%s) = %v", brief(o), !may)
			}
		}
		for port := -3; port < 65540; port++ {
			checkOrigin(t, api.Origin{Scheme: scheme, Host: a, Port: port})
		}
		for n := 16; n < 64; n++ {
			for _, port := range []int{-1 << n, -1<<n - 1, 1 << (n - 1), 1<<(n-1) + 80, 1<<(n-1) + 443, -1<<(n-1) + 80, math.MaxInt, math.MinInt} {
				checkOrigin(t, api.Origin{Scheme: scheme, Host: a, Port: port})
			}
		}
	}
}

// P12.1 to P12.3: hosts and schemes that may not be.
func TestParts(t *testing.T) {
	for _, h := range hosts() {
		if o := (api.Origin{Scheme: "http", Host: h, Port: -1}); !origin.May(o) || origin.Show(o) != "http://"+host.Show(h) {
			t.Errorf("May(%s) = %v, Show = %q", brief(o), origin.May(o), origin.Show(o))
		}
		for _, scheme := range wrongSchemes() {
			if o := (api.Origin{Scheme: scheme, Host: h, Port: -1}); origin.May(o) || origin.Show(o) != null {
				t.Errorf("May(%s) = %v, Show = %q", brief(o), origin.May(o), origin.Show(o))
			}
		}
	}
	for _, h := range wrongHosts() {
		for scheme := range ports {
			if o := (api.Origin{Scheme: scheme, Host: h, Port: -1}); origin.May(o) || origin.Show(o) != null || origin.Same(o, o) {
				t.Errorf("May(%s) = %v, Show = %q", brief(o), origin.May(o), origin.Show(o))
			}
		}
	}
	for _, o := range origins() {
		checkOrigin(t, o)
	}
}

// P12.1, P12.3: each byte in a scheme, and in a host's name.
func TestEachByte(t *testing.T) {
	for n := range 256 {
		c := string([]byte{byte(n)})
		for scheme := range ports {
			for _, name := range []string{c, c + "a", "a" + c, "a" + c + "b", "a." + c, c + ".localhost", c + "localhost", "localhost" + c} {
				h := api.Host{Kind: api.HoDomain, Name: name}
				checkOrigin(t, api.Origin{Scheme: scheme, Host: h, Port: 81})
				checkAddress(t, api.Url{Scheme: scheme, Host: h, Port: -1, Path: []string{""}})
			}
			for i := range len(scheme) + 1 {
				s := scheme[:i] + c + scheme[i:]
				checkOrigin(t, api.Origin{Scheme: s, Host: hosts()[3], Port: -1})
				checkAddress(t, api.Url{Scheme: s, Host: hosts()[3], Port: -1, Path: []string{""}})
			}
			for _, s := range []string{scheme + "://u" + c + "v@a.org/", scheme + "://a.org/b" + c + "d", scheme + "://a.org/?b" + c + "d", scheme + "://a.org/#b" + c + "d"} {
				u, is := url.Parse(s)
				checkAddress(t, u)
				if got := origin.Show(origin.Of(u)); is && got != scheme+"://a.org" {
					// What ends the authority, ahead of an @, leaves another host.
					if !strings.Contains("/?#", c) || got != scheme+"://u" {
						t.Errorf("the origin of %q is %q", s, got)
					}
				}
			}
		}
	}
}

// P12.2, P12.4: two origins of each kind; just one part differs in some of them.
func TestTwo(t *testing.T) {
	all := origins()
	for i, a := range all {
		for _, b := range all[i:] {
			checkTwo(t, a, b)
		}
	}
}

// P12.2: one part alone differs.
func TestSame(t *testing.T) {
	from := api.Origin{Scheme: "http", Host: hosts()[0], Port: 81}
	four := api.Origin{Scheme: "https", Host: api.Host{Kind: api.HoFour, Num: 1}, Port: -1}
	six := api.Origin{Scheme: "https", Host: api.Host{Kind: api.HoSix, Six: [8]int{1, 2, 3, 4, 5, 6, 7, 8}}, Port: 0}
	for _, x := range []struct {
		a, b api.Origin
		same bool
	}{
		{from, from, true}, {four, four, true}, {six, six, true},
		{from, api.Origin{Scheme: "https", Host: from.Host, Port: 81}, false},
		{from, api.Origin{Scheme: "http", Host: hosts()[1], Port: 81}, false},
		{from, api.Origin{Scheme: "http", Host: four.Host, Port: 81}, false},
		{from, api.Origin{Scheme: "http", Host: from.Host, Port: 82}, false},
		{from, api.Origin{Scheme: "http", Host: from.Host, Port: -1}, false},
		{from, api.Origin{Opaque: true, Scheme: "http", Host: from.Host, Port: 81}, false},
		{four, api.Origin{Scheme: "https", Host: api.Host{Kind: api.HoFour, Num: 2}, Port: -1}, false},
		{four, api.Origin{Scheme: "https", Host: api.Host{Kind: api.HoSix, Six: [8]int{7: 1}}, Port: -1}, false},
		{from, opaque, false}, {opaque, opaque, false}, {api.Origin{}, api.Origin{}, false}, {from, api.Origin{}, false},
	} {
		if origin.Same(x.a, x.b) != x.same || origin.Same(x.b, x.a) != x.same {
			t.Errorf("Same(%s, %s) = %v", brief(x.a), brief(x.b), !x.same)
		}
		checkTwo(t, x.a, x.b)
	}
	for i := range 8 {
		b := six
		b.Host.Six[i]++
		checkTwo(t, six, b)
		if origin.Same(six, b) {
			t.Errorf("Same(%s, %s)", brief(six), brief(b))
		}
	}
}

// P12.2, P12.4: one part alone differs, of which some do not matter.
func TestBoth(t *testing.T) {
	for _, x := range []struct {
		change func(u *api.Url)
		both   bool
	}{
		{func(u *api.Url) {}, true},
		{func(u *api.Url) { u.User = "x" }, true},
		{func(u *api.Url) { u.Pass = "x" }, true},
		{func(u *api.Url) { u.User, u.Pass = "", "" }, true},
		{func(u *api.Url) { u.Path = []string{"x", ""} }, true},
		{func(u *api.Url) { u.Path = []string{""} }, true},
		{func(u *api.Url) { u.Query, u.HasQuery = "x", true }, true},
		{func(u *api.Url) { u.Query, u.HasQuery = "", true }, true},
		{func(u *api.Url) { u.Query, u.HasQuery = "", false }, true},
		{func(u *api.Url) { u.Frag, u.HasFrag = "x", true }, true},
		{func(u *api.Url) { u.Frag, u.HasFrag = "", true }, true},
		{func(u *api.Url) { u.Frag, u.HasFrag = "", false }, true},
		{func(u *api.Url) { u.Scheme = map[string]string{"http": "https", "https": "http"}[u.Scheme] }, false},
		{func(u *api.Url) { u.Host = api.Host{Kind: api.HoDomain, Name: "other.org"} }, false},
		{func(u *api.Url) { u.Host = api.Host{Kind: api.HoFour, Num: 7} }, false},
		{func(u *api.Url) { u.Host = api.Host{Kind: api.HoSix, Six: [8]int{7: 7}} }, false},
		{func(u *api.Url) { u.Port = 7 }, false},
	} {
		for _, s := range []string{"http://a.org:81", "https://u:p@a.org:8443/b//c?d#e", "http://:p@[::1]:0//?#", "https://u@127.0.0.1:81/%20/b#f", "http://x.localhost/", "https://[1::ab]"} {
			a, b := parsed(t, s), parsed(t, s)
			x.change(&b)
			checkBoth(t, a, b)
			if got := origin.Both(a, b); got != x.both {
				t.Errorf("Both(%s, %s) = %v", brief(a), brief(b), got)
			}
			if x.both && (origin.Of(a) != origin.Of(b) || origin.Trust(a) != origin.Trust(b)) {
				t.Errorf("%s and %s come from others, or are trusted otherwise", brief(a), brief(b))
			}
		}
	}
	for i, s := range append(goods, opaques...) {
		for j, s2 := range append(goods, opaques...) {
			checkBoth(t, parsed(t, s), parsed(t, s2))
			if got := origin.Both(parsed(t, s), parsed(t, s2)); got != (i == j && i < len(goods)) {
				t.Errorf("Both of %q and %q = %v", s, s2, got)
			}
		}
	}
}

// P12.1 to P12.4: each of some changes on top of each other one.
func TestChangedTwice(t *testing.T) {
	for _, s := range goods {
		for _, one := range changes {
			for _, two := range changes {
				u := parsed(t, s)
				one(&u)
				two(&u)
				checkAddress(t, u)
				checkOrigin(t, api.Origin{Scheme: u.Scheme, Host: u.Host, Port: u.Port})
				checkOrigin(t, api.Origin{Opaque: true, Scheme: u.Scheme, Host: u.Host, Port: u.Port})
			}
		}
	}
}

// P12.1, P12.3: the library's own addresses tell the same of a scheme, a host and a port.
func TestLibrary(t *testing.T) {
	for scheme, own := range ports {
		for _, h := range hosts() {
			for _, port := range []string{"", ":0", ":81", ":8443", fmt.Sprint(":", own)} {
				s := scheme + "://u:p@" + host.Show(h) + port + "/b/c?d#e"
				other, err := neturl.Parse(s)
				if err != nil {
					t.Fatal(err)
				}
				want := other.Scheme + "://" + strings.TrimSuffix(other.Host, fmt.Sprint(":", own))
				if got := origin.Show(origin.Of(parsed(t, s))); got != want {
					t.Errorf("the origin of %q is %q, want %q", s, got, want)
				}
			}
		}
	}
}

// P1: long texts.
func TestLong(t *testing.T) {
	for _, c := range []string{"a", ".", "a.", "/", "?", "#", ":", "@", "1", "%", "\xff", "é", "localhost."} {
		s := strings.Repeat(c, 1<<14)
		for scheme := range ports {
			for _, text := range []string{scheme + "://" + s, scheme + "://a.org/" + s, scheme + "://" + s + "@a.org", scheme + "://a.org:" + s, scheme + "://a.org?" + s, scheme + "://a.org#" + s, "data:" + s} {
				u, _ := url.Parse(text)
				checkAddress(t, u)
				checkBoth(t, u, parsed(t, scheme+"://a.org"))
			}
			h := api.Host{Kind: api.HoDomain, Name: s}
			checkOrigin(t, api.Origin{Scheme: scheme, Host: h, Port: -1})
			checkOrigin(t, api.Origin{Scheme: s, Host: h, Port: -1})
			checkOrigin(t, api.Origin{Scheme: scheme + s, Host: hosts()[0], Port: -1})
			checkAddress(t, api.Url{Scheme: scheme, Host: h, User: s, Pass: s, Port: -1, Path: []string{s, s}, Opaque: s, Query: s, Frag: s})
		}
	}
	for n := 98; n < 104; n++ {
		name := strings.Repeat("a", n)
		checkOrigin(t, api.Origin{Scheme: "http", Host: api.Host{Kind: api.HoDomain, Name: name}, Port: -1})
		checkOrigin(t, api.Origin{Scheme: "http", Host: api.Host{Kind: api.HoDomain, Name: name[10:] + ".localhost"}, Port: -1})
	}
}

// shares tells whether a text lies in another one's memory.
func shares(a, b string) bool {
	if a == "" || b == "" {
		return false
	}
	from, start := uintptr(unsafe.Pointer(unsafe.StringData(a))), uintptr(unsafe.Pointer(unsafe.StringData(b)))
	return from >= start && from < start+uintptr(len(b))
}

// R3: no text of an answer lies in what was handed in.
func TestOwn(t *testing.T) {
	for _, s := range append(goods, opaques...) {
		u := parsed(t, s)
		u.Scheme, u.Host.Name = strings.Clone(u.Scheme), strings.Clone(u.Host.Name)
		o, again := origin.Of(u), origin.Of(u)
		shown := origin.Show(o)
		for _, x := range []string{u.Scheme, u.User, u.Pass, u.Host.Name, u.Opaque, u.Query, u.Frag} {
			for _, y := range []string{o.Scheme, o.Host.Name, shown} {
				if shares(y, x) {
					t.Errorf("%q of %s lies in %q", y, brief(o), x)
				}
			}
		}
		for _, x := range []string{o.Scheme, o.Host.Name} {
			if shares(shown, x) || shares(again.Scheme, x) || shares(again.Host.Name, x) {
				t.Errorf("%q, shown of %s, or another answer lies in %q", shown, brief(o), x)
			}
		}
	}
}

// R3, R5: what is handed in stays as it was, and what was asked before changes nothing.
func TestAskedAgain(t *testing.T) {
	all := mayNots(t)
	for _, s := range append(goods, opaques...) {
		all = append(all, parsed(t, s))
	}
	for i := range all {
		all[i].Path = append(slices.Clone(all[i].Path), "behind", "further")
		all[i].Path = all[i].Path[:len(all[i].Path)-2]
	}
	for range 2 {
		for _, u := range all {
			before := u
			before.Path = slices.Clone(u.Path[:len(u.Path)+2])
			for _, v := range all {
				checkBoth(t, u, v)
			}
			checkAddress(t, u)
			if !slices.Equal(u.Path[:len(u.Path)+2], before.Path) {
				t.Errorf("%s became %s", brief(before), brief(u))
			}
		}
	}
}

// FuzzOrigins holds the promises against any addresses and origins: its seeds run with the other tests.
func FuzzOrigins(f *testing.F) {
	for _, s := range append(goods, opaques...) {
		f.Add(s, "http://a.org/", "http", "a.org", api.HoDomain, -1)
		f.Add("https://b.net:81", s, "https", "localhost", api.HoFour, 443)
	}
	f.Fuzz(func(t *testing.T, one, two, scheme, name string, kind, port int) {
		a, _ := url.Parse(one)
		b, _ := url.Parse(two)
		checkAddress(t, a)
		checkBoth(t, a, b)
		h := api.Host{Kind: kind, Name: name}
		o := api.Origin{Scheme: scheme, Host: h, Port: port}
		checkOrigin(t, o)
		checkTwo(t, o, origin.Of(a))
		c := api.Url{Scheme: scheme, Host: h, Port: port, Path: a.Path, Query: b.Query, HasQuery: b.HasQuery}
		checkAddress(t, c)
		checkBoth(t, c, b)
		if c.User, c.Pass = a.User, b.Pass; url.May(c) && show.Show(c) != "" {
			checkText(t, show.Show(c), origin.Show(origin.Of(c)), origin.Trust(c))
		}
	})
}

package refer_test

import (
	"fmt"
	"math"
	"slices"
	"strings"
	"testing"
	"unsafe"

	"postmark/api"
	"postmark/host"
	"postmark/origin"
	"postmark/policy"
	"postmark/refer"
	"postmark/show"
	"postmark/strip"
	"postmark/url"
)

// ports are the schemes of the web, and their own ports.
var ports = map[string]int{"http": 80, "https": 443}

// noPolicies are numbers that are no policies.
var noPolicies = []int{api.Policies, api.Policies + 1, -1, -2, -api.PoAll, -api.Policies, 10, 100, -100, 255, 256, 257, 264, -248, 1 << 16, 1<<16 + 8, math.MaxInt32, math.MinInt32, 1 << 32, 1<<32 + 1, 1<<32 + 4, 1<<32 + 8, -1<<32 + 8, math.MaxInt, math.MinInt, math.MinInt + 1, math.MinInt + 8}

// policies are all numbers that the tests ask by: PoNone, each policy, and some that are none.
func policies() []int {
	all := slices.Clone(noPolicies)
	for p := range api.Policies {
		all = append(all, p)
	}
	return all
}

// web tells whether an address is one of the web, that may be.
func web(u api.Url) bool {
	_, is := ports[u.Scheme]
	return is && url.May(u)
}

// wantFrom is the first half of P17.1.
func wantFrom(raw string) (api.Url, bool) {
	if u, is := url.Parse(raw); is && web(u) {
		return u, true
	}
	return api.Url{}, false
}

func wantTrust(u api.Url) bool {
	return web(u) && (u.Scheme == "https" || host.Local(u.Host))
}

// wantDown is the other half.
func wantDown(from, to api.Url) bool { return wantTrust(from) && !wantTrust(to) }

func wantSame(a, b api.Url) bool {
	return web(a) && web(b) && a.Scheme == b.Scheme && a.Host == b.Host && a.Port == b.Port
}

// either is one level, if something holds, else the other one.
func either(holds bool, one, other int) int {
	if holds {
		return one
	}
	return other
}

// wantAllowed is what a policy allows.
func wantAllowed(p int, same, down bool) int {
	switch p {
	case api.PoNever:
		return api.LeNothing
	case api.PoOrigin:
		return api.LeOrigin
	case api.PoAll:
		return api.LeFull
	case api.PoSame:
		return either(same, api.LeFull, api.LeNothing)
	case api.PoCross:
		return either(same, api.LeFull, api.LeOrigin)
	case api.PoDowngrade:
		return either(down, api.LeNothing, api.LeFull)
	case api.PoStrict:
		return either(down, api.LeNothing, api.LeOrigin)
	}
	return either(same, api.LeFull, either(down, api.LeNothing, api.LeOrigin))
}

// wantLevel is P17.2.
func wantLevel(p int, from, to api.Url) int {
	return wantAllowed(p, wantSame(from, to), wantDown(from, to))
}

// source is an address's origin as an address, whole is it without a user and a fragment.
func source(u api.Url) string {
	s := u.Scheme + "://" + host.Show(u.Host)
	if u.Port != -1 {
		s += fmt.Sprint(":", u.Port)
	}
	return s + "/"
}

func whole(u api.Url) string {
	return show.Show(api.Url{Scheme: u.Scheme, Host: u.Host, Port: u.Port, Path: u.Path, Query: u.Query, HasQuery: u.HasQuery})
}

// wantReferer is P17.3.
func wantReferer(p int, raw string, to api.Url) (string, bool) {
	from, is := wantFrom(raw)
	if !is {
		return "", false
	}
	switch wantLevel(p, from, to) {
	case api.LeOrigin:
		return source(from), true
	case api.LeFull:
		if s := whole(from); len(s) <= 4096 {
			return s, true
		}
		return source(from), true
	}
	return "", false
}

// brief is what a test tells of an address, which may be long.
func brief(u api.Url) string {
	s := fmt.Sprintf("%+v", u)
	return s[:min(len(s), 400)]
}

// checkFrom is the first half of P17.1.
func checkFrom(t *testing.T, raw string) {
	t.Helper()
	u, is := refer.From(raw)
	if want, wantIs := wantFrom(raw); !url.Same(u, want) || is != wantIs {
		t.Errorf("From(%.200q) = %s, %v, want %s, %v", raw, brief(u), is, brief(want), wantIs)
	}
}

// checkPair is the other half, and P17.2, of any two addresses.
func checkPair(t *testing.T, p int, from, to api.Url) {
	t.Helper()
	if got, want := refer.Down(from, to), wantDown(from, to); got != want {
		t.Errorf("Down(%s, %s) = %v, want %v", brief(from), brief(to), got, want)
	}
	got, want := refer.Level(p, from, to), wantLevel(p, from, to)
	if got != want {
		t.Errorf("Level(%d, %s, %s) = %d, want %d", p, brief(from), brief(to), got, want)
	}
	if by := policy.Allowed(p, origin.Both(from, to), refer.Down(from, to)); got != by {
		t.Errorf("Level(%d, %s, %s) = %d, but allowed is %d", p, brief(from), brief(to), got, by)
	}
}

// checkReferer is P17.3 and the first half of P17.4 of any text and address.
func checkReferer(t *testing.T, p int, raw string, to api.Url) {
	t.Helper()
	got, is := refer.Referer(p, raw, to)
	if want, wantIs := wantReferer(p, raw, to); got != want || is != wantIs {
		t.Errorf("Referer(%d, %.200q, %s) = %.200q, %v, want %.200q, %v", p, raw, brief(to), got, is, want, wantIs)
	}
	from, _ := url.Parse(raw)
	if by, byIs := strip.Tell(from, refer.Level(p, from, to)); got != by || is != byIs {
		t.Errorf("Referer(%d, %.200q, %s) = %.200q, %v, but by its level %.200q, %v", p, raw, brief(to), got, is, by, byIs)
	}
	checkAtMost(t, p, from, to, got, is)
}

// checkAtMost is the first half of P17.4: what is told is nothing, the origin, or the address, as far as the policy allows.
func checkAtMost(t *testing.T, p int, from, to api.Url, told string, is bool) {
	t.Helper()
	if !is {
		if told != "" {
			t.Errorf("by %d from %s to %s nothing is told, but %.200q", p, brief(from), brief(to), told)
		}
		return
	}
	level := wantLevel(p, from, to)
	if told == "" || told != source(from) && told != whole(from) {
		t.Errorf("by %d from %s to %s is told %.200q", p, brief(from), brief(to), told)
	}
	if level == api.LeNothing || level < api.LeFull && told != source(from) {
		t.Errorf("by %d from %s to %s is told %.200q, more than level %d", p, brief(from), brief(to), told, level)
	}
	u, may := url.Parse(told)
	if !may || u.User != "" || u.Pass != "" || u.HasFrag || u.Frag != "" || len(told) > 4096 || !origin.Both(u, from) {
		t.Errorf("by %d from %s to %s is told %.200q", p, brief(from), brief(to), told)
	}
}

// checkTwo is the other half of P17.4, of two texts.
func checkTwo(t *testing.T, p int, raw, other string, to api.Url) {
	t.Helper()
	a, isA := wantFrom(raw)
	b, isB := wantFrom(other)
	if !isA || !isB {
		return
	}
	one, two := wantLevel(p, a, to), wantLevel(p, b, to)
	alike := wantSame(a, b) && one < api.LeFull && two < api.LeFull
	mute := wantTrust(a) == wantTrust(b) && !wantSame(a, to) && !wantSame(b, to) && (one == api.LeNothing || two == api.LeNothing)
	if !alike && !mute {
		return
	}
	s, is := refer.Referer(p, raw, to)
	z, too := refer.Referer(p, other, to)
	if s != z || is != too || mute && (is || s != "") {
		t.Errorf("by %d to %s of %.200q is told %.200q, %v, of %.200q %.200q, %v", p, brief(to), raw, s, is, other, z, too)
	}
}

// checkTold is P17.3 of one text and target, told literally.
func checkTold(t *testing.T, p int, raw string, to api.Url, want string) {
	t.Helper()
	if got, is := refer.Referer(p, raw, to); got != want || is != (want != "") {
		t.Errorf("Referer(%d, %.200q, %s) = %.200q, %v, want %.200q", p, raw, brief(to), got, is, want)
	}
}

func parsed(t *testing.T, s string) api.Url {
	t.Helper()
	u, is := url.Parse(s)
	if !is {
		t.Fatalf("%.200q is no address", s)
	}
	return u
}

// The chapter's section "Examples", and that of the whole document.
func TestExamples(t *testing.T) {
	to := parsed(t, "http://b.org/")
	checkTold(t, api.PoStrictCross, "https://a.org/x", to, "")
	checkTold(t, api.PoOrigin, "https://a.org/x", to, "https://a.org/")
	checkTold(t, policy.Usual(api.PoNone), "https://a.org/x", parsed(t, "https://b.org/"), "https://a.org/")
	checkTold(t, api.PoNone, "https://a.org/x", parsed(t, "https://b.org/"), "https://a.org/")
}

// The numbers on which these tests stand.
func TestNumbers(t *testing.T) {
	got := []int{api.PoNone, api.PoNever, api.PoDowngrade, api.PoSame, api.PoOrigin, api.PoStrict, api.PoCross, api.PoStrictCross, api.PoAll, api.Policies}
	if !slices.Equal(got, []int{0, 1, 2, 3, 4, 5, 6, 7, 8, 9}) {
		t.Errorf("the policies are %v", got)
	}
	if got := []int{api.LeNothing, api.LeOrigin, api.LeFull, api.Levels, api.MaxReferrer}; !slices.Equal(got, []int{0, 1, 2, 3, 4096}) {
		t.Errorf("the levels, how many, and the most bytes are %v", got)
	}
}

// Parts of addresses of the web: what stands in a text, and what is told of it.
var (
	hosts = map[string]string{"a.org": "a.org", "B.Net": "b.net", "LOCALHOST": "localhost", "x.localhost": "x.localhost", "127.0.0.1": "127.0.0.1", "128.0.0.1": "128.0.0.1", "[0::1]": "[::1]", "[::2]": "[::2]"}
	users = []string{"", "@", "u@", "u:p@", ":p@", "u:p@b.net:81@"}
	rests = map[string]string{"": "/", "/": "/", "/b": "/b", "//b/": "//b/", "/b/../c d": "/c%20d", "?": "/?", "/?q": "/?q", "/b?q?r/u@b.net": "/b?q?r/u@b.net"}
	frags = []string{"", "#", "#f", "#u:p@b.net/?"}
)

// P17.1, P17.3, P17.4: texts of addresses of the web, put together of parts.
func TestWeb(t *testing.T) {
	targets := []api.Url{{}, parsed(t, "http://c.org"), parsed(t, "https://c.org")}
	for scheme, own := range ports {
		doors := map[string]string{"": "", ":": "", fmt.Sprint(":0", own): "", fmt.Sprint(":", 80+443-own): fmt.Sprint(":", 80+443-own), ":0": ":0", ":65535": ":65535"}
		for name, shown := range hosts {
			for door, told := range doors {
				from := scheme + "://" + shown + told
				for rest, behind := range rests {
					for _, user := range users {
						for _, frag := range frags {
							raw := strings.ToUpper(scheme) + "://" + user + name + door + rest + frag
							checkFrom(t, raw)
							if u, is := refer.From(raw); !is || u.Scheme != scheme || !u.HasFrag != (frag == "") || whole(u) != from+behind {
								t.Errorf("From(%q) = %s, %v", raw, brief(u), is)
							}
							for _, to := range targets {
								checkTold(t, api.PoNever, raw, to, "")
								checkTold(t, api.PoOrigin, raw, to, from+"/")
								checkTold(t, api.PoAll, raw, to, from+behind)
								checkTold(t, api.PoSame, raw, to, "")
							}
							checkTold(t, api.PoSame, raw, parsed(t, from), from+behind)
							checkTold(t, api.PoStrictCross, raw, parsed(t, from), from+behind)
						}
					}
				}
			}
		}
	}
}

// others are texts of addresses that are not of the web, nones are texts of no addresses.
var (
	others = []string{"about:", "about:blank", "about:blank?q#f", "data:", "data:,", "data:a,b?c#d", "data://a.org/", "data:https://a.org/", "blob:", "blob:https://a.org/x", "blob:http://u@localhost/#", "ABOUT:srcdoc", "Data:?"}
	nones  = []string{"", "a", "a.org", "a.org/x", "//a.org", "/x", "?x", "#x", ":", "://a.org", "http", "http:", "https:/", "https://", "http:///x", "http:a.org", "http:/a.org", "https//a.org", "ftp://a.org", "file:///x", "ws://a.org", "wss://a.org", "httpss://a.org", "htt://a.org", "mailto:u@a.org", "javascript:x", "http://u@", "http://:81", "http://a.org:65536", "http://a.org:x", "http://a.org:-1", "https://1.2.3", "https://256.0.0.1", "https://[::1", "https://::1", "https://[g::]", "https://a b/", "https://a%62/", "https://a..b", "https://" + strings.Repeat("a", 101), "null", "no-referrer", "client"}
)

// P17.1, P17.3: texts of other addresses, and of none, tell nothing, by no policy.
func TestNothing(t *testing.T) {
	targets := []api.Url{{}, parsed(t, "http://a.org"), parsed(t, "https://a.org"), parsed(t, "data:,"), parsed(t, "blob:https://a.org/x"), parsed(t, "about:blank")}
	for _, s := range slices.Concat(others, nones) {
		for _, raw := range []string{s, s + strings.Repeat("x", 5000), s + "#" + strings.Repeat("x", 5000)} {
			if u, is := refer.From(raw); is || !url.Same(u, api.Url{}) || u.Path != nil {
				t.Errorf("From(%.200q) = %s, %v", raw, brief(u), is)
			}
			checkFrom(t, raw)
			for _, p := range policies() {
				for _, to := range targets {
					checkTold(t, p, raw, to, "")
				}
			}
		}
	}
	for _, s := range others {
		parsed(t, s)
	}
	for _, s := range nones {
		if u, is := url.Parse(s); is {
			t.Errorf("%q is an address, %s", s, brief(u))
		}
	}
}

// trusted and doubted are texts of addresses by whether they are to be trusted.
var (
	trusted = []string{"https://a.org", "https://u:p@a.org:80/b?c#d", "https://128.0.0.1", "https://[::2]", "https://localhost:0", "http://localhost", "http://x.localhost:8080/b", "http://a.b.localhost", "http://127.0.0.1", "http://127.255.255.255:1/", "http://127.0.0.0", "http://[::1]", "http://u@[0:0::1]:443"}
	doubted = []string{"http://a.org", "http://u:p@a.org:443/b?c#d", "http://128.0.0.1", "http://126.255.255.255", "http://[::]", "http://[::2]", "http://[1::1]", "http://localhost.org", "http://xlocalhost", "http://localhostx", "http://0.0.0.1", "data:,", "data:https://a.org", "about:blank", "blob:https://a.org/x", "blob:http://localhost/"}
)

// changes are what makes addresses of the web that may be ones that may not be, one part wrong alone.
var changes = []func(u *api.Url){
	func(u *api.Url) { u.Scheme = "" },
	func(u *api.Url) { u.Scheme = "ftp" },
	func(u *api.Url) { u.Scheme = strings.ToUpper(u.Scheme) },
	func(u *api.Url) { u.Scheme = "blob" },
	func(u *api.Url) { u.Host = api.Host{} },
	func(u *api.Url) { u.Host.Kind = api.HoKinds },
	func(u *api.Url) { u.Host.Name += "." },
	func(u *api.Url) { u.Host.Num -= 1 << 33 },
	func(u *api.Url) { u.Host.Six[3] = -1 },
	func(u *api.Url) { u.Port = ports[u.Scheme] },
	func(u *api.Url) { u.Port = 65536 },
	func(u *api.Url) { u.Port = -2 },
	func(u *api.Url) { u.Path = nil },
	func(u *api.Url) { u.Path = []string{"."} },
	func(u *api.Url) { u.Path = []string{"x y"} },
	func(u *api.Url) { u.Opaque = "x" },
	func(u *api.Url) { u.Query, u.HasQuery = "x", false },
	func(u *api.Url) { u.Query, u.HasQuery = "#", true },
	func(u *api.Url) { u.User = "x@" },
	func(u *api.Url) { u.Pass = "\xff" },
	func(u *api.Url) { u.Frag, u.HasFrag = "x", false },
	func(u *api.Url) { u.Frag, u.HasFrag = "`", true },
}

// goods are texts of addresses of the web of each kind, with all parts and without.
var goods = []string{"https://a.org", "https://u:p@a.org:8443/b//c?d#e", "http://a.org/", "http://localhost?q", "http://u@127.0.0.1:81/#", "https://[1::ab]:80/x/"}

// mayNots are addresses that may not be: the zero one, and ones with one part wrong alone.
func mayNots(t *testing.T) []api.Url {
	all := []api.Url{{}, {Port: -1}, {Scheme: "https"}, {Scheme: "http", Port: -1, Path: []string{""}}, {Scheme: "data", Port: 0}, {Scheme: "blob", Port: -1, Path: []string{""}}}
	for _, s := range goods {
		for _, change := range changes {
			u := parsed(t, s)
			change(&u)
			all = append(all, u)
		}
	}
	for _, u := range all {
		if url.May(u) {
			t.Fatalf("%s may be", brief(u))
		}
	}
	return all
}

// P17.1: from each of what is to be trusted and what is not to each.
func TestDown(t *testing.T) {
	list := func(texts []string) (all []api.Url) {
		for _, s := range texts {
			all = append(all, parsed(t, s))
		}
		return all
	}
	high, low := list(trusted), append(list(doubted), mayNots(t)...)
	check := func(from, to api.Url, want bool) {
		if got := refer.Down(from, to); got != want {
			t.Errorf("Down(%s, %s) = %v, want %v", brief(from), brief(to), got, want)
		}
		checkPair(t, api.PoDowngrade, from, to)
	}
	for _, a := range high {
		for _, b := range high {
			check(a, b, false)
		}
		for _, b := range low {
			check(a, b, true)
			check(b, a, false)
		}
	}
	for _, a := range low {
		for _, b := range low {
			check(a, b, false)
		}
	}
}

// levels are those of each policy: to one of another origin, to one of the same, down to one of another.
var levels = map[int][3]int{
	api.PoNone:        {1, 2, 0},
	api.PoNever:       {0, 0, 0},
	api.PoDowngrade:   {2, 2, 0},
	api.PoSame:        {0, 2, 0},
	api.PoOrigin:      {1, 1, 1},
	api.PoStrict:      {1, 1, 0},
	api.PoCross:       {1, 2, 1},
	api.PoStrictCross: {1, 2, 0},
	api.PoAll:         {2, 2, 2},
}

// P17.2: pairs of each way, by each policy, and by numbers that are none.
func TestLevels(t *testing.T) {
	pairs := [3][][2]string{
		{{"https://a.org", "https://b.org"}, {"http://a.org", "https://a.org"}, {"http://a.org", "http://b.org"}, {"https://a.org", "https://a.org:80"}, {"https://a.org", "http://localhost"}, {"http://127.0.0.1", "http://[::1]"}, {"http://[::1]", "https://[::1]"}, {"data:,", "https://a.org"}, {"data:,", "data:,"}, {"http://a.org", "about:blank"}, {"blob:https://a.org/", "http://a.org"}, {"http://a.org:443", "http://a.org"}},
		{{"https://a.org", "https://a.org"}, {"https://u:p@a.org/b?c#d", "https://A.org:443/e?f#g"}, {"http://a.org", "http://u@a.org:80"}, {"http://localhost", "http://localhost/#"}, {"https://[::1]:0/x", "https://[0::0:1]:0/y"}, {"http://1.2.3.4:443", "http://1.2.3.4:443"}},
		{{"https://a.org", "http://b.org"}, {"https://a.org", "http://a.org"}, {"https://a.org:80", "http://a.org"}, {"http://localhost", "http://a.org"}, {"http://127.0.0.1", "http://128.0.0.1"}, {"http://[::1]", "http://[::2]"}, {"https://a.org", "data:,"}, {"http://x.localhost", "about:blank"}, {"https://a.org", "blob:https://a.org/"}},
	}
	for way, list := range pairs {
		for _, x := range list {
			from, to := parsed(t, x[0]), parsed(t, x[1])
			for _, p := range policies() {
				want, is := levels[p]
				if !is {
					want = levels[api.PoStrictCross]
				}
				if got := refer.Level(p, from, to); got != want[way] {
					t.Errorf("Level(%d, %s, %s) = %d, want %d", p, x[0], x[1], got, want[way])
				}
				checkPair(t, p, from, to)
				checkReferer(t, p, x[0], to)
			}
		}
	}
}

// P17.2: each number near the policies, and each that is one in fewer bits.
func TestEachNumber(t *testing.T) {
	for _, s := range [][2]string{{"https://a.org", "https://a.org"}, {"https://a.org", "https://b.org"}, {"https://a.org", "http://b.org"}} {
		from, to := parsed(t, s[0]), parsed(t, s[1])
		for p := -300; p <= 300; p++ {
			checkPair(t, p, from, to)
			checkReferer(t, p, s[0], to)
		}
		usual := refer.Level(api.PoStrictCross, from, to)
		for p := range api.Policies {
			for bits := 4; bits < 64; bits++ {
				for _, far := range []int{p + 1<<bits, p - 1<<bits, -p - 1<<bits, p | 1<<bits} {
					if got := refer.Level(far, from, to); got != usual {
						t.Errorf("Level(%d, %s, %s) = %d, want %d", far, s[0], s[1], got, usual)
					}
				}
			}
		}
	}
}

// P17.1, P17.2, P17.3: addresses on either side that may not be.
func TestMayNot(t *testing.T) {
	for _, u := range mayNots(t) {
		for _, s := range append(goods, "data:,", "about:blank") {
			good := parsed(t, s)
			for _, p := range policies() {
				checkPair(t, p, good, u)
				checkPair(t, p, u, good)
				checkPair(t, p, u, u)
				checkReferer(t, p, s, u)
				if refer.Level(p, u, u) != refer.Level(p, parsed(t, "data:,"), u) {
					t.Errorf("what may not be, as %s, has an origin", brief(u))
				}
			}
		}
	}
}

// P17.3: the address has as many bytes as may be told, fewer, and more.
func TestLength(t *testing.T) {
	for _, from := range []string{"https://a.org/", "https://" + strings.Repeat("x", 100) + ":65535/"} {
		for length, short := range map[int]bool{100 + len(from): true, 4095: true, 4096: true, 4097: false} {
			room := length - len(from)
			for _, raw := range []string{from + strings.Repeat("x", room), from + "?" + strings.Repeat("x", room-1), from + strings.Repeat("/", room), from + strings.Repeat("%FF", room/3) + strings.Repeat("x", room%3)} {
				want := raw
				if !short {
					want = from
				}
				for _, text := range []string{raw, raw + "#", raw + "#" + strings.Repeat("f", 5000), strings.Replace(raw, "://", "://u:"+strings.Repeat("p", 5000)+"@", 1), strings.Replace(raw, "://", "://"+strings.Repeat("u", 5000)+"@", 1) + "#f"} {
					checkReferer(t, api.PoAll, text, parsed(t, "http://b.org"))
					for p, told := range map[int]string{api.PoAll: want, api.PoSame: "", api.PoCross: from, api.PoOrigin: from, api.PoNever: "", api.Policies: from} {
						checkTold(t, p, text, parsed(t, "https://b.org"), told)
					}
					for p, told := range map[int]string{api.PoAll: want, api.PoSame: want, api.PoCross: want, api.PoDowngrade: want, api.PoNone: want, api.PoStrict: from, api.PoOrigin: from, api.PoNever: ""} {
						checkTold(t, p, text, parsed(t, from+"else"), told)
					}
				}
			}
		}
	}
}

// P17.3: the bytes are those of what is told, in which more are encoded than in the text.
func TestLengthOfEncoded(t *testing.T) {
	from := "https://a.org/"
	for n, told := range map[int]bool{1359: true, 1360: true, 1361: false, 4000: false} {
		want := from
		if told {
			want += strings.Repeat("%20", n)
		}
		checkTold(t, api.PoAll, from+strings.Repeat(" ", n)+"#", parsed(t, "http://b.org"), want)
		checkReferer(t, api.PoSame, from+"?"+strings.Repeat("\xff", n), parsed(t, from))
	}
}

// texts are such of addresses of the web of which several have one origin.
var texts = []string{
	"https://a.org", "https://a.org/x", "https://a.org:443/y?z#q", "https://u@A.org/", "HTTPS://u:p@a.org/y//",
	"https://a.org:80/x", "https://b.org/x", "https://c.org", "https://127.0.0.1/x",
	"http://a.org", "http://a.org:80/x?y#z", "http://:p@a.org/#", "http://a.org:443/x", "http://b.org/x", "http://128.0.0.1/",
	"http://localhost/x", "http://u@LOCALHOST:80?y", "http://127.0.0.1/x", "http://127.0.0.2/x", "http://[::1]/x", "http://[0::1]#y", "http://[::2]/x",
}

// P17.3, P17.4: each two texts, to each target, by each policy.
func TestTwo(t *testing.T) {
	targets := append(slices.Clone(texts), "data:,", "about:blank", "https://d.org", "http://d.org", "http://d.localhost")
	for _, target := range targets {
		to := parsed(t, target)
		for _, p := range append([]int{-1, api.Policies}, policies()[len(noPolicies):]...) {
			for _, raw := range texts {
				checkReferer(t, p, raw, to)
				for _, other := range texts {
					checkTwo(t, p, raw, other, to)
				}
			}
		}
	}
}

// P17.4: what differs between two texts is told by a level only, and does not matter at the lesser ones.
func TestAlike(t *testing.T) {
	to, down := parsed(t, "https://b.org"), parsed(t, "http://b.org")
	for _, user := range users {
		for rest := range rests {
			for _, frag := range frags {
				raw := "https://" + user + "a.org" + rest + frag
				checkTwo(t, api.PoOrigin, raw, "https://a.org/"+strings.Repeat("x", 5000), to)
				for _, p := range []int{api.PoOrigin, api.PoStrict, api.PoCross, api.PoStrictCross, api.PoNone} {
					checkTold(t, p, raw, to, "https://a.org/")
				}
				for _, p := range []int{api.PoNever, api.PoDowngrade, api.PoSame, api.PoStrict, api.PoStrictCross, api.PoNone} {
					checkTold(t, p, raw, down, "")
					checkTold(t, p, strings.Replace(raw, "a.org", "c.org:81", 1), down, "")
				}
			}
		}
	}
}

// P17.1 to P17.4: each byte in each part.
func TestEachByte(t *testing.T) {
	targets := []api.Url{{}, parsed(t, "http://a.org"), parsed(t, "https://a.org")}
	for n := range 256 {
		c := string([]byte{byte(n)})
		for _, s := range []string{c, "http" + c + "://a.org", c + "http://a.org", "https:" + c + "//a.org", "http://a" + c + "b", "http://a" + c + "@a.org", "http://a:b" + c + "@a.org", "http://a.org:1" + c, "http://a.org/a" + c + "b", "https://a.org/?a" + c + "b", "https://a.org/#" + c, "data:a" + c + "b"} {
			checkFrom(t, s)
			u, _ := url.Parse(s)
			for _, to := range targets {
				for p := range api.Policies {
					checkReferer(t, p, s, to)
					checkPair(t, p, u, to)
					checkPair(t, p, to, u)
				}
			}
		}
		for _, put := range []func(u *api.Url){
			func(u *api.Url) { u.Scheme += c },
			func(u *api.Url) { u.User = c },
			func(u *api.Url) { u.Host.Name += c },
			func(u *api.Url) { u.Path = []string{c} },
			func(u *api.Url) { u.Query, u.HasQuery = c, true },
			func(u *api.Url) { u.Frag, u.HasFrag = c, true },
		} {
			u := parsed(t, "https://a.org")
			put(&u)
			for p := range api.Policies {
				checkReferer(t, p, "https://a.org/x", u)
				checkPair(t, p, u, targets[1])
			}
		}
	}
}

// P1: long texts, and addresses with long parts, also ones that may not be.
func TestLong(t *testing.T) {
	for _, c := range []string{"a", "%", ".", "/", "?", "#", ":", "@", "\xff", "é"} {
		s := strings.Repeat(c, 1<<13)
		for _, raw := range []string{s, "http:" + s, "http://" + s, "https://a.org/" + s, "https://u" + s + "@a.org", "http://a.org:" + s} {
			checkFrom(t, raw)
			for _, put := range []func(u *api.Url){
				func(u *api.Url) { u.Scheme = s },
				func(u *api.Url) { u.User = s },
				func(u *api.Url) { u.Host.Name = s },
				func(u *api.Url) { u.Path = strings.Split(s, "") },
				func(u *api.Url) { u.Opaque = s },
				func(u *api.Url) { u.Frag, u.HasFrag = s, true },
			} {
				to := parsed(t, "https://a.org/")
				put(&to)
				checkReferer(t, api.PoSame, raw, to)
				checkReferer(t, api.PoAll, raw, to)
				checkPair(t, api.PoStrictCross, to, to)
			}
		}
	}
}

// shares tells whether a text lies in another one's memory.
func shares(a, b string) bool {
	if a == "" || b == "" {
		return false
	}
	from, start := uintptr(unsafe.Pointer(unsafe.StringData(a))), uintptr(unsafe.Pointer(unsafe.StringData(b)))
	return from >= start && from < start+uintptr(len(b))
}

func parts(u api.Url) []string {
	return append([]string{u.Scheme, u.User, u.Pass, u.Host.Name, u.Opaque, u.Query, u.Frag}, u.Path...)
}

// R3: what is answered is the caller's own.
func TestOwn(t *testing.T) {
	for _, raw := range append(slices.Clone(texts), goods...) {
		// A text of its own memory, not of the program's.
		raw = strings.Clone(raw)
		u, _ := refer.From(raw)
		again, _ := refer.From(raw)
		for _, x := range parts(u) {
			if shares(x, raw) {
				t.Errorf("%.200q lies in %.200q", x, raw)
			}
		}
		for i := range u.Path {
			u.Path[i] = "else"
		}
		if want, _ := url.Parse(raw); !url.Same(again, want) {
			t.Errorf("what From(%.200q) answered became %s", raw, brief(again))
		}
		var before []string
		for p := range api.Policies {
			s, _ := refer.Referer(p, raw, again)
			for _, x := range append(parts(again), append(before, raw)...) {
				if shares(s, x) {
					t.Errorf("%.200q lies in %.200q", s, x)
				}
			}
			before = append(before, s)
		}
	}
}

// R3, R5: what is handed in stays as it was, and what was asked before changes nothing.
func TestAskedAgain(t *testing.T) {
	all := mayNots(t)
	for _, s := range slices.Concat(goods, others) {
		all = append(all, parsed(t, s))
	}
	for i := range all {
		// There is room behind the end of what is handed in.
		all[i].Path = append(slices.Clone(all[i].Path), "behind", "further")
		all[i].Path = all[i].Path[:len(all[i].Path)-2]
	}
	for range 3 {
		for i, u := range all {
			before := u
			before.Path = slices.Clone(u.Path[:len(u.Path)+2])
			checkPair(t, i%10, u, all[(i*7+3)%len(all)])
			checkPair(t, i%10, all[(i*7+3)%len(all)], u)
			checkReferer(t, i%10, goods[i%len(goods)], u)
			after := u
			after.Path = u.Path[:len(u.Path)+2]
			if !url.Same(before, after) {
				t.Errorf("%s became %s", brief(before), brief(after))
			}
		}
	}
}

// FuzzReferrers holds the promises against any texts and addresses: its seeds run with the other tests.
func FuzzReferrers(f *testing.F) {
	for i, s := range slices.Concat(texts, others, nones) {
		f.Add(s, texts[i%len(texts)], "https", "a.org", "x/y", i%10, -1)
		f.Add(texts[i%len(texts)], s, "http", "localhost", "", 100-i, i)
	}
	f.Fuzz(func(t *testing.T, raw, target, scheme, name, segments string, p, port int) {
		to, _ := url.Parse(target)
		put := api.Url{Scheme: scheme, Host: api.Host{Kind: api.HoDomain, Name: name}, Port: port, Path: strings.Split(segments, "/")}
		from, _ := url.Parse(raw)
		checkFrom(t, raw)
		checkFrom(t, target)
		for _, p := range []int{p, p & 7, api.PoAll} {
			for _, to := range []api.Url{to, put, from, {}} {
				checkReferer(t, p, raw, to)
				checkReferer(t, p, "https://"+name+"/"+segments, to)
				checkTwo(t, p, raw, target, to)
				checkTwo(t, p, raw, scheme+"://"+name, to)
				checkPair(t, p, put, to)
				checkPair(t, p, from, to)
			}
		}
	})
}

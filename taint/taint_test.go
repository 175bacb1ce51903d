package taint_test

import (
	"fmt"
	"math"
	"slices"
	"strings"
	"testing"
	"unsafe"

	"postmark/api"
	"postmark/host"
	"postmark/origin"
	"postmark/taint"
	"postmark/url"
)

const null = "null"

var opaque = api.Origin{Opaque: true}

// ports are the schemes of the web, and their own ports.
var ports = map[string]int{"http": 80, "https": 443}

// wantOf is an address's origin.
func wantOf(u api.Url) api.Origin {
	if _, web := ports[u.Scheme]; !web || !url.May(u) {
		return opaque
	}
	return api.Origin{Scheme: u.Scheme, Host: u.Host, Port: u.Port}
}

// named tells whether an origin may be, and is not opaque.
func named(o api.Origin) bool {
	own, web := ports[o.Scheme]
	return !o.Opaque && web && host.May(o.Host) && o.Port >= -1 && o.Port <= 65535 && o.Port != own
}

// wantSame tells whether two origins are the same, part by part.
func wantSame(a, b api.Origin) bool {
	return named(a) && named(b) && a.Scheme == b.Scheme && a.Port == b.Port &&
		a.Host.Kind == b.Host.Kind && a.Host.Name == b.Host.Name && a.Host.Num == b.Host.Num && a.Host.Six == b.Host.Six
}

// shown is an origin's text.
func shown(o api.Origin) string {
	switch {
	case !named(o):
		return null
	case o.Port == -1:
		return fmt.Sprintf("%s://%s", o.Scheme, host.Show(o.Host))
	}
	return fmt.Sprintf("%s://%s:%d", o.Scheme, host.Show(o.Host), o.Port)
}

// wantTaint and wantCreds are P19.1.
func wantTaint(was bool, o api.Origin, cur, next api.Url) bool {
	if was {
		return true
	}
	another := !wantSame(wantOf(cur), wantOf(next))
	return another && !wantSame(o, wantOf(cur))
}

func wantCreds(u api.Url) bool { return len(u.User)+len(u.Pass) > 0 }

// wantCrossed and wantQuiet are P19.2.
func wantCrossed(q api.Req) bool {
	if q.Mode == 1 && !wantSame(q.Origin, wantOf(q.Url)) {
		return true
	}
	return q.Cross
}

func wantQuiet(q api.Req) bool {
	if q.Mode == 1 && wantCrossed(q) {
		return false
	}
	return slices.Contains([]string{"GET", "HEAD"}, q.Method)
}

// wantSends is P19.3.
func wantSends(q api.Req) (string, bool) {
	switch {
	case wantQuiet(q):
		return "", false
	case q.Tainted:
		return null, true
	case q.Mode == 1:
		return shown(q.Origin), true
	}
	switch q.Policy {
	case 1:
		return null, true
	case 0, 2, 5, 7:
		if !q.Origin.Opaque && q.Origin.Scheme == "https" && q.Url.Scheme != "https" {
			return null, true
		}
	case 3:
		if !wantSame(q.Origin, wantOf(q.Url)) {
			return null, true
		}
	}
	return shown(q.Origin), true
}

// brief is what a test tells of what may be long.
func brief(x any) string {
	s := fmt.Sprintf("%+v", x)
	return s[:min(len(s), 400)]
}

// checkTaint is the first half of P19.1, and of P19.4, of any origin and addresses.
func checkTaint(t *testing.T, o api.Origin, cur, next api.Url) {
	t.Helper()
	got, want := taint.Taint(false, o, cur, next), wantTaint(false, o, cur, next)
	if got != want {
		t.Errorf("Taint(false, %s, %s, %s) = %v, want %v", brief(o), brief(cur), brief(next), got, want)
	}
	if by := !origin.Both(cur, next) && !origin.Same(o, origin.Of(cur)); got != by {
		t.Errorf("Taint(false, %s, %s, %s) = %v, but by their origins %v", brief(o), brief(cur), brief(next), got, by)
	}
	if !taint.Taint(true, o, cur, next) {
		t.Errorf("Taint(true, %s, %s, %s) = false", brief(o), brief(cur), brief(next))
	}
}

// checkCreds is the other half of P19.1.
func checkCreds(t *testing.T, u api.Url) {
	t.Helper()
	if got, want := taint.Creds(u), wantCreds(u); got != want {
		t.Errorf("Creds(%s) = %v, want %v", brief(u), got, want)
	}
}

// checkReq is P19.2, P19.3 and P19.4 of any request.
func checkReq(t *testing.T, q api.Req) {
	t.Helper()
	if got, want := taint.Crossed(q), wantCrossed(q); got != want {
		t.Errorf("Crossed(%s) = %v, want %v", brief(q), got, want)
	}
	if got, want := taint.Quiet(q), wantQuiet(q); got != want {
		t.Errorf("Quiet(%s) = %v, want %v", brief(q), got, want)
	}
	got, is := taint.Sends(q)
	if want, wantIs := wantSends(q); got != want || is != wantIs {
		t.Errorf("Sends(%s) = %.200q, %v, want %.200q, %v", brief(q), got, is, want, wantIs)
	}
	checkTold(t, q, got, is)
}

// checkTold is P19.4: what a request tells is nothing, null, or the origin of who asks, and that just if it is not tainted.
func checkTold(t *testing.T, q api.Req, told string, is bool) {
	t.Helper()
	if is != (told != "") || taint.Quiet(q) == is {
		t.Errorf("Sends(%s) = %.200q, %v", brief(q), told, is)
	}
	if !is || told == null {
		return
	}
	if u, web := url.Parse(told); q.Tainted || !web || told != origin.Show(q.Origin) || !origin.Same(origin.Of(u), q.Origin) {
		t.Errorf("Sends(%s) = %.200q", brief(q), told)
	}
	q.Tainted = true
	if s, still := taint.Sends(q); s != null || !still {
		t.Errorf("Sends(%s) = %.200q, %v, not tainted %.200q", brief(q), s, still, told)
	}
}

// checkSends is P19.3 of one request, told literally: empty, if it is quiet.
func checkSends(t *testing.T, q api.Req, want string) {
	t.Helper()
	if got, is := taint.Sends(q); got != want || is != (want != "") {
		t.Errorf("Sends(%s) = %.200q, %v, want %.200q", brief(q), got, is, want)
	}
	checkReq(t, q)
}

func parsed(t testing.TB, s string) api.Url {
	t.Helper()
	u, is := url.Parse(s)
	if !is {
		t.Fatalf("%.200q is no address", s)
	}
	return u
}

// from is the origin of an address's text.
func from(t testing.TB, s string) api.Origin {
	t.Helper()
	return wantOf(parsed(t, s))
}

// The chapter's section "Examples", and the fifth one of the whole document.
func TestExamples(t *testing.T) {
	q := api.Req{Method: "GET", Url: parsed(t, "https://b.org"), Origin: from(t, "https://a.org"), Mode: api.MoCors}
	checkSends(t, q, "https://a.org")
	q.Tainted = true
	checkSends(t, q, null)
	q.Tainted = taint.Taint(false, q.Origin, q.Url, parsed(t, "https://c.org"))
	if !q.Tainted {
		t.Errorf("from https://a.org by https://b.org to https://c.org is not tainted")
	}
	q.Url = parsed(t, "https://c.org")
	checkSends(t, q, null)
}

// The numbers on which these tests stand.
func TestNumbers(t *testing.T) {
	got := []int{api.PoNone, api.PoNever, api.PoDowngrade, api.PoSame, api.PoOrigin, api.PoStrict, api.PoCross, api.PoStrictCross, api.PoAll, api.Policies}
	if !slices.Equal(got, []int{0, 1, 2, 3, 4, 5, 6, 7, 8, 9}) {
		t.Errorf("the policies are %v", got)
	}
	if got := []int{api.MoNavigate, api.MoCors, api.MoNoCors, api.Modes}; !slices.Equal(got, []int{0, 1, 2, 3}) {
		t.Errorf("the modes are %v", got)
	}
}

// P19.1: the origin of who asks is that of the address, of the next one, of neither, opaque, and zero.
func TestTaint(t *testing.T) {
	for _, x := range []struct {
		o, cur, next string
		want         bool
	}{
		{"https://a.org", "https://a.org", "https://a.org", false},
		{"https://a.org", "https://a.org/x", "https://a.org/y", false},
		{"https://a.org", "https://a.org", "https://b.org", false},
		{"https://a.org", "https://a.org", "http://a.org", false},
		{"https://a.org", "https://a.org", "https://a.org:80", false},
		{"https://a.org", "https://a.org", "data:,", false},
		{"https://b.org", "https://a.org", "https://a.org/x", false},
		{"https://b.org", "https://a.org", "https://a.org:443", false},
		{"https://b.org", "https://u@a.org", "https://a.org/?q#f", false},
		{"https://b.org", "https://A.org", "https://a.ORG", false},
		{"https://b.org", "HTTPS://a.org", "https://a.org", false},
		{"https://b.org", "http://[0::1]", "http://[::1]:80", false},
		{"https://b.org", "https://a.org", "https://b.org", true},
		{"https://b.org", "https://a.org", "http://a.org", true},
		{"https://b.org", "http://a.org", "https://a.org", true},
		{"https://b.org", "http://a.org:443", "https://a.org", true},
		{"https://b.org", "https://a.org", "https://a.org:80", true},
		{"https://b.org", "https://a.org:81", "https://a.org:82", true},
		{"https://b.org", "https://a.org", "https://x.a.org", true},
		{"https://b.org", "http://1.2.3.4", "http://1.2.3.5", true},
		{"https://b.org", "http://[::1]", "http://[::2]", true},
		{"https://b.org", "https://a.org", "https://c.org", true},
		{"https://A.org:443", "https://u:p@a.org/x", "https://c.org", false},
		{"http://a.org", "https://a.org", "https://c.org", true},
		{"https://a.org:80", "https://a.org", "https://c.org", true},
		{"https://x.a.org", "https://a.org", "https://c.org", true},
		{"data:,", "https://a.org", "https://a.org/x", false},
		{"data:,", "https://a.org", "https://b.org", true},
		{"data:,", "data:,", "data:,", true},
		{"data:,", "data:,", "https://a.org", true},
		{"data:,", "https://a.org", "data:,", true},
		{"https://a.org", "data:,", "data:,", true},
		{"https://a.org", "about:blank", "https://a.org", true},
		{"https://a.org", "blob:https://a.org/x", "https://b.org", true},
	} {
		o, cur, next := from(t, x.o), parsed(t, x.cur), parsed(t, x.next)
		if got := taint.Taint(false, o, cur, next); got != x.want {
			t.Errorf("Taint(false, %s, %s, %s) = %v, want %v", x.o, x.cur, x.next, got, x.want)
		}
		checkTaint(t, o, cur, next)
		checkTaint(t, o, next, cur)
		checkTaint(t, opaque, cur, next)
		checkTaint(t, api.Origin{}, cur, next)
		// The zero origin may not be, so it is no address's own, just as the opaque one.
		if got, want := taint.Taint(false, api.Origin{}, cur, next), taint.Taint(false, opaque, cur, next); got != want {
			t.Errorf("Taint(false, zero, %s, %s) = %v, of the opaque one %v", x.cur, x.next, got, want)
		}
	}
}

// webs are texts of addresses of the web, of which several have one origin, others such of other addresses.
var (
	webs = []string{
		"https://a.org", "https://u:p@A.org:443/b//c?d#e", "https://a.org:80", "https://a.org:8443/x", "https://b.org", "https://localhost/", "https://1.2.3.4", "https://[1::ab]:80/x/",
		"http://a.org", "HTTP://u@a.ORG:80/?#", "http://a.org:443", "http://a.org:0", "http://b.org", "http://localhost?q", "http://:p@127.0.0.1:65535/#", "http://[::1]/x", "http://[0::1]",
	}
	others = []string{"about:", "about:blank", "about:blank?c#d", "data:", "data:,", "data:a,b?c#d", "data://a.org/b", "blob:https://a.org/b", "blob:?", "blob:#", "blob:?#e"}
)

// changes are what makes addresses of the web that may be ones that may not be, one part wrong alone.
var changes = []func(u *api.Url){
	func(u *api.Url) { u.Scheme = "" },
	func(u *api.Url) { u.Scheme = "ftp" },
	func(u *api.Url) { u.Scheme = strings.ToUpper(u.Scheme) },
	func(u *api.Url) { u.Scheme += ":" },
	func(u *api.Url) { u.Scheme = "blob" },
	func(u *api.Url) { u.Host = api.Host{} },
	func(u *api.Url) { u.Host.Kind = api.HoKinds },
	func(u *api.Url) { u.Host.Name += "." },
	func(u *api.Url) { u.Host.Name = "A.org" },
	func(u *api.Url) { u.Host.Num -= 1 << 33 },
	func(u *api.Url) { u.Host.Six[3] = -1 },
	func(u *api.Url) { u.Port = ports[u.Scheme] },
	func(u *api.Url) { u.Port = 65536 },
	func(u *api.Url) { u.Port = -2 },
	func(u *api.Url) { u.Path = nil },
	func(u *api.Url) { u.Path = []string{"x y"} },
	func(u *api.Url) { u.Opaque = "x" },
	func(u *api.Url) { u.Query, u.HasQuery = "x", false },
	func(u *api.Url) { u.Query, u.HasQuery = "#", true },
	func(u *api.Url) { u.User = "x@" },
	func(u *api.Url) { u.Pass = "\xff" },
	func(u *api.Url) { u.Frag, u.HasFrag = "x", false },
	func(u *api.Url) { u.Frag, u.HasFrag = "`", true },
}

// mayNots are addresses that may not be: the zero one, and ones with one part wrong alone.
func mayNots(t testing.TB) []api.Url {
	all := []api.Url{{}, {Port: -1}, {Scheme: "https"}, {Scheme: "http", Port: -1, Path: []string{""}}, {Scheme: "data", Port: 0}, {Scheme: "blob", Port: -1, Path: []string{""}}}
	for _, s := range []string{"https://a.org", "https://u:p@a.org:8443/b//c?d#e", "http://a.org", "http://127.0.0.1:81/", "http://[::1]"} {
		for _, change := range changes {
			u := parsed(t, s)
			change(&u)
			all = append(all, u)
		}
	}
	for _, u := range all {
		if url.May(u) {
			t.Fatalf("%s may be", brief(u))
		}
	}
	return all
}

// addresses are some that may be, and all that may not.
func addresses(t testing.TB) []api.Url {
	var all []api.Url
	for _, s := range slices.Concat(webs, others) {
		all = append(all, parsed(t, s))
	}
	return append(all, mayNots(t)...)
}

// origins are those of addresses, the opaque one, the zero one, and such as may not be.
func origins(t testing.TB) []api.Origin {
	all := []api.Origin{opaque, {}, {Port: -1}, {Scheme: "https"}, {Scheme: "https", Port: -1}, {Scheme: "http", Port: -1}, {Opaque: true, Port: -1}, {Opaque: true, Scheme: "https", Port: -1}}
	for _, s := range webs {
		o := from(t, s)
		if !named(o) {
			t.Fatalf("%q has no origin", s)
		}
		all = append(all, o)
	}
	for _, change := range []func(o *api.Origin){
		func(o *api.Origin) { o.Opaque = true },
		func(o *api.Origin) { o.Scheme = "HTTPS" },
		func(o *api.Origin) { o.Scheme = "ftp" },
		func(o *api.Origin) { o.Scheme = "data" },
		func(o *api.Origin) { o.Scheme = "" },
		func(o *api.Origin) { o.Host = api.Host{} },
		func(o *api.Origin) { o.Host.Name = "A.org" },
		func(o *api.Origin) { o.Host.Num = 1 },
		func(o *api.Origin) { o.Host.Six[7] = 1 },
		func(o *api.Origin) { o.Host.Kind = api.HoFour },
		func(o *api.Origin) { o.Port = 443 },
		func(o *api.Origin) { o.Port = 65536 },
		func(o *api.Origin) { o.Port = -2 },
	} {
		o := from(t, "https://a.org")
		change(&o)
		if named(o) {
			t.Fatalf("%s may be", brief(o))
		}
		all = append(all, o)
	}
	return all
}

// P19.1: each origin, from each address to each.
func TestTaintOfEach(t *testing.T) {
	all := addresses(t)
	for i, cur := range all {
		for j, next := range all {
			// Two that may not be are alike: not each of each.
			if i >= len(webs)+len(others) && j >= len(webs)+len(others) && i != j && (i+j)%7 != 0 {
				continue
			}
			for _, o := range origins(t) {
				checkTaint(t, o, cur, next)
			}
		}
	}
}

// P19.1: the address that asks, and is left, has parts of which its origin does not hang.
func TestTaintOfParts(t *testing.T) {
	o, next := from(t, "https://a.org"), parsed(t, "https://b.org")
	for _, user := range []string{"", "@", "u@", "u:p@", ":p@", "u:p@b.org:81@"} {
		for _, name := range []string{"a.org", "A.org", "a.ORG:443", "A.ORG:"} {
			for _, rest := range []string{"", "/", "/b//", "/b/../c d", "?", "?q/u@b.net", "/b?q#f", "#", "#//b.org"} {
				cur := parsed(t, "HTTPS://"+user+name+rest)
				if taint.Taint(false, o, cur, next) || !taint.Taint(false, from(t, "https://b.org"), cur, next) || taint.Taint(false, opaque, cur, parsed(t, "https://a.org")) {
					t.Errorf("%s is not of https://a.org", brief(cur))
				}
				checkTaint(t, o, cur, next)
				checkTaint(t, o, next, cur)
				checkTaint(t, opaque, cur, cur)
			}
		}
	}
}

// P19.4: what is tainted on the way stays so, whichever way it goes.
func TestStaysTainted(t *testing.T) {
	texts := []string{"https://a.org", "https://A.org/x", "https://b.org", "http://a.org", "data:,", "https://a.org:80"}
	for _, o := range []api.Origin{from(t, "https://a.org"), from(t, "https://b.org"), from(t, "https://c.org"), opaque, {}} {
		for way := range 6 * 6 * 6 * 6 * 6 {
			cur, was := parsed(t, texts[way%6]), false
			for rest := way / 6; rest > 0; rest /= 6 {
				next := parsed(t, texts[rest%6])
				is := taint.Taint(was, o, cur, next)
				if was && !is || is != wantTaint(was, o, cur, next) {
					t.Errorf("Taint(%v, %s, %s, %s) = %v", was, brief(o), brief(cur), brief(next), is)
				}
				if s, told := taint.Sends(api.Req{Method: "POST", Url: next, Origin: o, Mode: rest % 3, Tainted: is, Policy: api.PoAll}); is && (s != null || !told) {
					t.Errorf("what is tainted at %s tells %q, %v", brief(next), s, told)
				}
				cur, was = next, is
			}
		}
	}
}

// P19.1: addresses with a name, with a password, with both, with neither, and the zero one.
func TestCreds(t *testing.T) {
	for s, want := range map[string]bool{
		"http://a.org": false, "http://@a.org": false, "http://:@a.org": false, "http://u@a.org": true, "http://:p@a.org": true, "http://u:@a.org": true, "http://u:p@a.org": true, "https://@@a.org": true, "https://::@a.org": true, "http:// @a.org": true,
		"http://a.org/u@b.org": false, "http://a.org/u:p@": false, "http://a.org?u:p@b.org": false, "http://a.org/#u@b.org": false, "https://a.org:81": false, "data:u:p@a.org": false, "data://u:p@a.org/": false, "blob:https://u@a.org": false,
	} {
		if got := taint.Creds(parsed(t, s)); got != want {
			t.Errorf("Creds(%q) = %v", s, got)
		}
		checkCreds(t, parsed(t, s))
	}
	for _, u := range addresses(t) {
		checkCreds(t, u)
		for _, user := range []string{"", "u", " ", "@", ":", "\x00", "\xff", strings.Repeat("u", 1<<12)} {
			for _, pass := range []string{"", "p", " ", "@", ":", "\x00", "\xff", strings.Repeat("p", 1<<12)} {
				u.User, u.Pass = user, pass
				if got := taint.Creds(u); got != (user+pass != "") {
					t.Errorf("Creds(%s) = %v", brief(u), got)
				}
			}
		}
	}
	if taint.Creds(api.Url{}) || !taint.Creds(api.Url{User: "u"}) || !taint.Creds(api.Url{Pass: "p"}) || !taint.Creds(api.Url{User: "u", Pass: "p"}) {
		t.Errorf("Creds of addresses of a user alone is wrong")
	}
}

// methods are some of which the first two are quiet ones; noModes and noPolicies are numbers that are none.
var (
	methods    = []string{"GET", "HEAD", "POST", "PUT", "DELETE", "OPTIONS", "get", "head", "Get", "HEAd", "", " ", "GE", "GETS", "HEA", "HEADS", "GET ", " GET", "GET,HEAD", "GETHEAD", "GET\x00", "\x00GET", "G\xc3\x89T", "*"}
	noModes    = []int{api.Modes, -1, -2, 4, 255, 256, 257, -255, 1 << 16, 1<<16 + 1, math.MaxInt32, math.MinInt32 + 1, 1 << 32, 1<<32 + 1, -1<<32 + 1, math.MaxInt, math.MinInt, math.MinInt + 1}
	noPolicies = []int{api.Policies, api.Policies + 1, -1, -2, -3, -7, -api.Policies, 100, 255, 256, 257, 259, -253, 1 << 16, 1<<16 + 1, math.MaxInt32, math.MinInt32 + 3, 1 << 32, 1<<32 + 1, 1<<32 + 2, 1<<32 + 3, 1<<32 + 5, 1<<32 + 7, -1<<32 + 1, math.MaxInt, math.MinInt, math.MinInt + 1, math.MinInt + 3}
)

// modes and policies are all numbers that the tests ask by.
func modes() []int { return append([]int{api.MoNavigate, api.MoCors, api.MoNoCors}, noModes...) }

func policies() []int {
	all := slices.Clone(noPolicies)
	for p := range api.Policies {
		all = append(all, p)
	}
	return all
}

// P19.2: requests that crossed and that did not, of each mode, at the origin of who asks and at another one.
func TestCrossed(t *testing.T) {
	for _, mode := range modes() {
		for s, same := range map[string]bool{
			"https://a.org": true, "https://A.org:443/x": true, "https://u:p@a.org/?q#f": true,
			"https://b.org": false, "http://a.org": false, "https://a.org:80": false, "https://x.a.org": false, "data:,": false, "about:blank": false, "blob:https://a.org/x": false,
		} {
			q := api.Req{Url: parsed(t, s), Origin: from(t, "https://a.org"), Mode: mode}
			if got, want := taint.Crossed(q), mode == api.MoCors && !same; got != want {
				t.Errorf("Crossed(%s) = %v, want %v", brief(q), got, want)
			}
			for _, o := range []api.Origin{opaque, {}, from(t, "https://a.org"), from(t, s)} {
				q.Origin = o
				q.Cross = false
				if !named(o) && taint.Crossed(q) != (mode == api.MoCors) {
					t.Errorf("Crossed(%s) = %v", brief(q), taint.Crossed(q))
				}
				checkReq(t, q)
				q.Cross = true
				if !taint.Crossed(q) {
					t.Errorf("Crossed(%s) = false", brief(q))
				}
				checkReq(t, q)
			}
		}
	}
}

// P19.2: requests of each method and mode that crossed and that did not.
func TestQuiet(t *testing.T) {
	for i, method := range methods {
		for _, mode := range modes() {
			for _, cross := range []bool{false, true} {
				for s, same := range map[string]bool{"https://a.org/x": true, "https://b.org": false, "data:,": false} {
					q := api.Req{Method: method, Url: parsed(t, s), Origin: from(t, "https://a.org"), Mode: mode, Cross: cross}
					want := i < 2 && (mode != api.MoCors || same && !cross)
					if got := taint.Quiet(q); got != want {
						t.Errorf("Quiet(%s) = %v, want %v", brief(q), got, want)
					}
					checkReq(t, q)
					q.Tainted = true
					if got := taint.Quiet(q); got != want {
						t.Errorf("Quiet(%s) = %v, want %v", brief(q), got, want)
					}
					checkReq(t, q)
				}
			}
		}
	}
}

// P19.2: methods with each byte at each place, with one more, and with one less.
func TestMethodOfEachByte(t *testing.T) {
	for _, method := range []string{"GET", "HEAD", "POST"} {
		for i := range len(method) + 1 {
			for c := range 256 {
				put := method[:i] + string([]byte{byte(c)}) + method[min(i+1, len(method)):]
				more := method[:i] + string([]byte{byte(c)}) + method[i:]
				for _, s := range []string{put, more} {
					q := api.Req{Method: s, Url: parsed(t, "https://a.org"), Origin: from(t, "https://a.org")}
					if got, want := taint.Quiet(q), s == "GET" || s == "HEAD"; got != want {
						t.Errorf("Quiet(%s) = %v, want %v", brief(q), got, want)
					}
					checkReq(t, q)
				}
			}
			checkReq(t, api.Req{Method: method[:i]})
			checkReq(t, api.Req{Method: method[i:]})
		}
	}
}

// sent is what each policy tells of https://a.org and of http://a.org that do not ask in MoCors: at their own origin, at another one of https, and at one that is not; 1 is null, 0 the origin.
var sent = map[int][2][3]int{
	api.PoNone:        {{0, 0, 1}, {0, 0, 0}},
	api.PoNever:       {{1, 1, 1}, {1, 1, 1}},
	api.PoDowngrade:   {{0, 0, 1}, {0, 0, 0}},
	api.PoSame:        {{0, 1, 1}, {0, 1, 1}},
	api.PoOrigin:      {{0, 0, 0}, {0, 0, 0}},
	api.PoStrict:      {{0, 0, 1}, {0, 0, 0}},
	api.PoCross:       {{0, 0, 0}, {0, 0, 0}},
	api.PoStrictCross: {{0, 0, 1}, {0, 0, 0}},
	api.PoAll:         {{0, 0, 0}, {0, 0, 0}},
}

// P19.3: each policy, and numbers that are none, which hide nothing.
func TestSendsByPolicy(t *testing.T) {
	targets := [3][]string{
		{"%s", "%s/x?y", "%s#"},
		{"https://b.org", "https://a.org:80", "https://localhost/", "https://u:p@x.a.org/y#z"},
		{"http://b.org", "http://a.org:81", "http://localhost", "http://127.0.0.1", "http://[::1]", "data:,", "about:blank", "blob:https://a.org/x"},
	}
	for _, p := range policies() {
		for i, o := range []string{"https://a.org", "http://a.org"} {
			for way, list := range targets {
				for _, s := range list {
					s = strings.Replace(s, "%s", o, 1)
					want := [2]string{o, null}[sent[p][i][way]]
					for _, mode := range modes() {
						q := api.Req{Method: "POST", Url: parsed(t, s), Origin: from(t, o), Mode: mode, Policy: p}
						told := want
						if mode == api.MoCors {
							told = o
						}
						checkSends(t, q, told)
						q.Cross = true
						checkSends(t, q, told)
						q.Method = "GET"
						if mode != api.MoCors {
							told = ""
						}
						checkSends(t, q, told)
						q.Tainted = true
						if told != "" {
							told = null
						}
						checkSends(t, q, told)
					}
				}
			}
		}
	}
}

// P19.3: origins that are opaque, zero, or may not be are told by null alone.
func TestSendsNull(t *testing.T) {
	for _, o := range origins(t) {
		for _, u := range addresses(t) {
			for p := range api.Policies {
				q := api.Req{Method: "POST", Url: u, Origin: o, Mode: p % 4, Policy: p}
				if named(o) {
					checkReq(t, q)
					continue
				}
				checkSends(t, q, null)
				q.Method, q.Mode = "GET", api.MoCors
				checkSends(t, q, null)
				q.Mode = api.MoNoCors
				checkSends(t, q, "")
			}
		}
	}
}

// P19.3: the scheme of the address counts, also of one that may not be.
func TestSendsToSchemes(t *testing.T) {
	for _, scheme := range []string{"", "h", "http", "https", "httpss", "HTTPS", "Https", "https:", " https", "https ", "ftp", "ws", "wss", "file", "about", "data", "blob", "https\x00"} {
		for _, u := range addresses(t) {
			u.Scheme = scheme
			for p := range api.Policies + 1 {
				for _, o := range []string{"https://a.org", "https://b.org:81", "http://a.org"} {
					checkReq(t, api.Req{Method: "PUT", Url: u, Origin: from(t, o), Policy: p})
				}
			}
			told := null
			if scheme == "https" {
				told = "https://c.org"
			}
			checkSends(t, api.Req{Method: "POST", Url: u, Origin: from(t, "https://c.org"), Policy: api.PoStrict}, told)
			checkSends(t, api.Req{Method: "POST", Url: u, Origin: from(t, "https://c.org"), Policy: api.PoCross}, "https://c.org")
			checkSends(t, api.Req{Method: "POST", Url: u, Origin: from(t, "https://c.org"), Policy: api.PoSame}, null)
			checkSends(t, api.Req{Method: "POST", Url: u, Origin: from(t, "http://c.org"), Policy: api.PoStrict}, "http://c.org")
		}
	}
}

// P19.3: the text of each origin.
func TestSendsText(t *testing.T) {
	for s, want := range map[string]string{
		"https://a.org": "https://a.org", "HTTPS://u:p@A.org:443/b?c#d": "https://a.org", "http://a.org:443": "http://a.org:443", "https://a.org:80": "https://a.org:80", "https://a.org:0": "https://a.org:0", "http://a.org:65535": "http://a.org:65535",
		"http://127.0.0.1:8080": "http://127.0.0.1:8080", "https://[0::1]": "https://[::1]", "https://[1:0:0:2::3]:81/": "https://[1:0:0:2::3]:81", "http://localhost": "http://localhost",
		"data:,": null, "about:blank": null, "blob:https://a.org/x": null,
	} {
		for _, target := range []string{"https://b.org", "http://c.org", "data:,"} {
			checkSends(t, api.Req{Method: "GET", Url: parsed(t, target), Origin: from(t, s), Mode: api.MoCors, Policy: api.PoNever}, want)
			checkSends(t, api.Req{Method: "POST", Url: parsed(t, target), Origin: from(t, s), Policy: api.PoAll}, want)
			checkSends(t, api.Req{Method: "POST", Url: parsed(t, target), Origin: from(t, s), Policy: api.PoNever}, null)
			checkSends(t, api.Req{Method: "POST", Url: parsed(t, target), Origin: from(t, s), Mode: api.MoCors, Tainted: true}, null)
		}
	}
}

// P19.2, P19.3, P19.4: requests of all parts that count.
func TestReqOfEach(t *testing.T) {
	var urls []api.Url
	for _, s := range []string{"https://a.org", "https://A.org/x#y", "https://b.org", "http://a.org", "http://localhost", "data:,"} {
		urls = append(urls, parsed(t, s))
	}
	urls = append(urls, api.Url{}, api.Url{Scheme: "https"})
	for _, o := range []api.Origin{from(t, "https://a.org"), from(t, "http://a.org"), from(t, "https://b.org:81"), opaque, {}, {Scheme: "https", Port: -1}} {
		for _, u := range urls {
			for _, method := range []string{"GET", "HEAD", "POST", "get", ""} {
				for mode := -1; mode <= api.Modes; mode++ {
					for p := -1; p <= api.Policies; p++ {
						for bits := range 4 {
							checkReq(t, api.Req{Url: u, Method: method, Origin: o, Mode: mode, Policy: p, Tainted: bits&1 == 1, Cross: bits&2 == 2})
						}
					}
				}
			}
		}
	}
}

// P19.2, P19.3: each number near the modes and policies, and each that is one in fewer bits.
func TestEachNumber(t *testing.T) {
	check := func(mode, p int) {
		t.Helper()
		for _, s := range []string{"https://a.org", "https://b.org", "http://b.org"} {
			for _, method := range []string{"GET", "POST"} {
				checkReq(t, api.Req{Method: method, Url: parsed(t, s), Origin: from(t, "https://a.org"), Mode: mode, Policy: p})
			}
		}
	}
	for n := -300; n <= 300; n++ {
		check(n, api.PoNever)
		check(api.MoNavigate, n)
	}
	for n := range api.Policies {
		for bits := 4; bits < 64; bits++ {
			for _, far := range []int{n + 1<<bits, n - 1<<bits, -n - 1<<bits, n | 1<<bits} {
				check(far, api.PoNever)
				check(api.MoNoCors, far)
			}
		}
	}
}

// All other parts of a request do not matter.
func TestOtherParts(t *testing.T) {
	parts := []func(q *api.Req){
		func(q *api.Req) {
			q.Heads = []api.Field{{Name: "Origin", Value: "https://c.org"}, {Name: "Authorization", Value: "x"}}
		},
		func(q *api.Req) { q.Heads = []api.Field{} },
		func(q *api.Req) { q.Body = true },
		func(q *api.Req) { q.Redirect = api.ReError },
		func(q *api.Req) { q.Redirect = math.MinInt },
		func(q *api.Req) { q.Referrer = "https://c.org/x" },
		func(q *api.Req) { q.Referrer = "\xff" },
		func(q *api.Req) { q.Count = 20 },
		func(q *api.Req) { q.Count = math.MaxInt },
		func(q *api.Req) { q.Count = -1 },
		func(q *api.Req) { q.Url.User, q.Url.Pass = "u", "p" },
		func(q *api.Req) { q.Url.Frag, q.Url.HasFrag = "x", true },
		func(q *api.Req) { q.Url.Query, q.Url.HasQuery = "x", true },
		func(q *api.Req) { q.Url.Path = []string{"b", "", "c"} },
	}
	for _, s := range []string{"https://a.org", "https://b.org", "http://a.org"} {
		for _, method := range []string{"GET", "POST"} {
			for mode := range api.Modes {
				for p := range api.Policies {
					for bits := range 4 {
						q := api.Req{Method: method, Url: parsed(t, s), Origin: from(t, "https://a.org"), Mode: mode, Policy: p, Tainted: bits&1 == 1, Cross: bits&2 == 2}
						told, is := taint.Sends(q)
						for i, put := range parts {
							other := q
							put(&other)
							if s, also := taint.Sends(other); s != told || also != is || taint.Quiet(other) != taint.Quiet(q) || taint.Crossed(other) != taint.Crossed(q) {
								t.Errorf("part %d of %s changes what it tells to %q, %v", i, brief(other), s, also)
							}
							checkReq(t, other)
						}
					}
				}
			}
		}
	}
}

// P1: each byte, and long texts, in each part.
func TestEachByteAndLong(t *testing.T) {
	texts := []string{strings.Repeat("a", 1<<13), strings.Repeat("%", 1<<13), strings.Repeat(".", 1<<13), strings.Repeat("\xff", 1<<13), strings.Repeat("GET", 1<<11), strings.Repeat("é", 1<<12)}
	for c := range 256 {
		texts = append(texts, string([]byte{byte(c)}))
	}
	next := parsed(t, "https://b.org")
	for _, s := range texts {
		for _, put := range []func(q *api.Req){
			func(q *api.Req) { q.Method = s },
			func(q *api.Req) { q.Url.Scheme += s },
			func(q *api.Req) { q.Url.User = s },
			func(q *api.Req) { q.Url.Pass = s },
			func(q *api.Req) { q.Url.Host.Name += s },
			func(q *api.Req) { q.Url.Path = []string{s} },
			func(q *api.Req) { q.Url.Opaque = s },
			func(q *api.Req) { q.Url.Query, q.Url.HasQuery = s, true },
			func(q *api.Req) { q.Url.Frag, q.Url.HasFrag = s, true },
			func(q *api.Req) { q.Origin.Scheme += s },
			func(q *api.Req) { q.Origin.Host.Name += s },
			func(q *api.Req) { q.Origin.Host.Name, q.Url.Host.Name = s+"a.org", s+"a.org" },
			func(q *api.Req) { q.Referrer = s },
		} {
			for p := range api.Policies {
				q := api.Req{Method: "POST", Url: parsed(t, "https://a.org"), Origin: from(t, "https://a.org"), Mode: p % 3, Policy: p}
				put(&q)
				checkReq(t, q)
				q.Method = "GET"
				checkReq(t, q)
				checkTaint(t, q.Origin, q.Url, next)
				checkTaint(t, q.Origin, next, q.Url)
				checkCreds(t, q.Url)
			}
		}
	}
}

// shares tells whether a text lies in another one's memory.
func shares(a, b string) bool {
	if a == "" || b == "" {
		return false
	}
	from, start := uintptr(unsafe.Pointer(unsafe.StringData(a))), uintptr(unsafe.Pointer(unsafe.StringData(b)))
	return from >= start && from < start+uintptr(len(b))
}

// texts are all texts that a request holds.
func texts(q api.Req) []string {
	all := append([]string{q.Method, q.Referrer, q.Origin.Scheme, q.Origin.Host.Name, q.Url.Scheme, q.Url.User, q.Url.Pass, q.Url.Host.Name, q.Url.Opaque, q.Url.Query, q.Url.Frag}, q.Url.Path...)
	for _, f := range q.Heads {
		all = append(all, f.Name, f.Value)
	}
	return all
}

// R3: what is answered is the caller's own.
func TestOwn(t *testing.T) {
	for _, s := range slices.Concat(webs, others) {
		for mode := range api.Modes {
			o := from(t, s)
			// Texts of their own memory, not of the program's.
			o.Scheme, o.Host.Name = strings.Clone(o.Scheme), strings.Clone(o.Host.Name)
			q := api.Req{Method: "POST", Url: parsed(t, "https://b.org/x"), Origin: o, Mode: mode, Policy: api.PoAll, Referrer: strings.Clone("https://a.org"), Heads: []api.Field{{Name: "Origin", Value: strings.Clone("https://a.org")}}}
			told, _ := taint.Sends(q)
			for _, x := range texts(q) {
				if shares(told, x) {
					t.Errorf("%q of %s lies in %q", told, brief(q), x)
				}
			}
			again, _ := taint.Sends(q)
			if told != null && shares(again, told) {
				t.Errorf("%q of %s is told twice by one memory", told, brief(q))
			}
		}
	}
}

// R3, R5: what is handed in stays as it was, and what was asked before changes nothing.
func TestAskedAgain(t *testing.T) {
	all, who := addresses(t), origins(t)
	for range 3 {
		for i, u := range all {
			// There is room behind the end of what is handed in.
			path := append(slices.Clone(u.Path), "behind", "further")
			u.Path = path[:len(u.Path)]
			heads := []api.Field{{Name: "Authorization", Value: "x"}, {Name: "Origin", Value: "y"}, {Name: "behind", Value: "z"}}
			q := api.Req{Url: u, Method: methods[i%5], Heads: heads[:2], Origin: who[i%len(who)], Mode: i % 4, Policy: i % 10, Tainted: i%3 == 0, Cross: i%2 == 0}
			before, fields, segments := brief(q), slices.Clone(heads), slices.Clone(path)
			checkReq(t, q)
			checkCreds(t, u)
			checkTaint(t, q.Origin, u, all[(i*7+3)%len(all)])
			checkTaint(t, q.Origin, all[(i*7+3)%len(all)], u)
			if brief(q) != before || !slices.Equal(heads, fields) || !slices.Equal(path, segments) {
				t.Errorf("%s became %s", before, brief(q))
			}
		}
	}
}

// FuzzTaints holds the promises against any requests and addresses: its seeds run with the other tests.
func FuzzTaints(f *testing.F) {
	for i, s := range slices.Concat(webs, others) {
		f.Add(s, webs[i%len(webs)], webs[i%5], methods[i%len(methods)], "https", "a.org", -1, i%4, i%10, i%4)
		f.Add(webs[i%4], s, s, methods[i%3], "http", "localhost", i, i-4, 100-i, i)
	}
	f.Fuzz(func(t *testing.T, raw, target, asks, method, scheme, name string, port, mode, p, bits int) {
		h := api.Host{Kind: api.HoDomain, Name: name}
		cur, _ := url.Parse(raw)
		next, _ := url.Parse(target)
		who, _ := url.Parse(asks)
		put := api.Url{Scheme: scheme, User: raw, Host: h, Port: port, Path: []string{""}}
		urls := []api.Url{cur, next, who, put, {}}
		for _, o := range []api.Origin{wantOf(cur), wantOf(who), {Scheme: scheme, Host: h, Port: port}, {Opaque: bits&1 == 1, Scheme: scheme, Host: h, Port: port}, opaque, {}} {
			for _, u := range urls {
				checkCreds(t, u)
				for _, v := range urls {
					checkTaint(t, o, u, v)
				}
				for _, method := range []string{method, "GET", "POST"} {
					checkReq(t, api.Req{Url: u, Method: method, Origin: o, Mode: mode, Policy: p, Tainted: bits&2 == 2, Cross: bits&4 == 4})
					checkReq(t, api.Req{Url: u, Method: method, Origin: o, Mode: mode & 3, Policy: p & 15, Cross: bits&4 == 4})
				}
			}
		}
	})
}

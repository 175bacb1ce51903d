package method_test

import (
	"fmt"
	"math"
	"reflect"
	"slices"
	"strings"
	"testing"
	"unsafe"

	"postmark/api"
	"postmark/host"
	"postmark/method"
	"postmark/url"
)

var opaque = api.Origin{Opaque: true}

// ports are the schemes of the web, and their own ports.
var ports = map[string]int{"http": 80, "https": 443}

// wantOf is an address's origin.
func wantOf(u api.Url) api.Origin {
	if _, web := ports[u.Scheme]; !web || !url.May(u) {
		return opaque
	}
	return api.Origin{Scheme: u.Scheme, Host: u.Host, Port: u.Port}
}

// named tells whether an origin may be, and is not opaque.
func named(o api.Origin) bool {
	own, web := ports[o.Scheme]
	return !o.Opaque && web && host.May(o.Host) && o.Port >= -1 && o.Port <= 65535 && o.Port != own
}

// wantSame tells whether two origins are the same, part by part.
func wantSame(a, b api.Origin) bool {
	return named(a) && named(b) && a.Scheme == b.Scheme && a.Port == b.Port &&
		a.Host.Kind == b.Host.Kind && a.Host.Name == b.Host.Name && a.Host.Num == b.Host.Num && a.Host.Six == b.Host.Six
}

// low is ascii's Lower.
func low(s string) string {
	b := []byte(s)
	for i, c := range b {
		if c >= 'A' && c <= 'Z' {
			b[i] += 32
		}
	}
	return string(b)
}

// bodily are the four names, in small letters.
var bodily = []string{"content-encoding", "content-language", "content-location", "content-type"}

// wantRewrites and wantPlain are P20.1.
func wantRewrites(status int, m string) bool {
	if status == 303 {
		return !slices.Contains([]string{"GET", "HEAD"}, m)
	}
	return m == "POST" && (status == 301 || status == 302)
}

func wantPlain(l []api.Field) bool { return len(wantDrop(l, bodily...)) == len(l) }

// wantDrop is a list without the fields of some names, which are in small letters.
func wantDrop(l []api.Field, names ...string) []api.Field {
	var out []api.Field
	for _, f := range l {
		if !slices.Contains(names, low(f.Name)) {
			out = append(out, f)
		}
	}
	return out
}

// wantChange is P20.2.
func wantChange(q api.Req, status int) api.Req {
	if !wantRewrites(status, q.Method) {
		return q
	}
	q.Method = "GET"
	q.Body = false
	q.Heads = wantDrop(q.Heads, bodily...)
	return q
}

// wantAway is the first half of P20.3.
func wantAway(q api.Req, next api.Url) api.Req {
	out := q
	own := wantSame(q.Origin, wantOf(q.Url))
	if !wantSame(wantOf(q.Url), wantOf(next)) {
		out.Heads = wantDrop(q.Heads, "authorization")
		out.Tainted = q.Tainted || !own
	}
	if q.Mode == 1 && !own {
		out.Cross = true
	}
	out.Url = next
	if q.Count == 1<<63-1 {
		out.Count = -1 << 63
	} else {
		out.Count = q.Count + 1
	}
	return out
}

// plainly is a request whose lists without elements are none.
func plainly(q api.Req) api.Req {
	if len(q.Heads) == 0 {
		q.Heads = nil
	}
	if len(q.Url.Path) == 0 {
		q.Url.Path = nil
	}
	return q
}

// wantNamed is the other half of P20.3.
func wantNamed(p, q api.Req) bool { return reflect.DeepEqual(plainly(p), plainly(q)) }

// brief is what a test tells of what may be long.
func brief(x any) string {
	s := fmt.Sprintf("%+v", x)
	return s[:min(len(s), 600)]
}

// copied is a request of lists of its own.
func copied(q api.Req) api.Req {
	q.Heads = slices.Clone(q.Heads)
	q.Url.Path = slices.Clone(q.Url.Path)
	return q
}

// checkChange is P20.2, and what follows of it.
func checkChange(t *testing.T, q api.Req, status int) {
	t.Helper()
	before := copied(q)
	got, want := method.Change(q, status), wantChange(q, status)
	if !wantNamed(got, want) {
		t.Errorf("Change(%s, %d) = %s, want %s", brief(q), status, brief(got), brief(want))
	}
	if !wantNamed(q, before) {
		t.Errorf("Change(%s, %d) made it %s", brief(before), status, brief(q))
	}
	if changes := method.Rewrites(status, q.Method); changes != wantRewrites(status, q.Method) || changes && !method.Plain(got.Heads) {
		t.Errorf("Rewrites(%d, %.200q) = %v, and behind Change fields are %s", status, q.Method, changes, brief(got.Heads))
	}
}

// checkAway is the first half of P20.3.
func checkAway(t *testing.T, q api.Req, next api.Url) {
	t.Helper()
	before, path := copied(q), slices.Clone(next.Path)
	got, want := method.Away(q, next), wantAway(q, next)
	if !wantNamed(got, want) {
		t.Errorf("Away(%s, %s) = %s, want %s", brief(q), brief(next), brief(got), brief(want))
	}
	if !wantNamed(q, before) || !slices.Equal(next.Path, path) {
		t.Errorf("Away(%s, %s) made it %s", brief(before), brief(next), brief(q))
	}
}

// checkNamed is the other half, of two requests, in both orders, and of each and itself.
func checkNamed(t *testing.T, p, q api.Req) {
	t.Helper()
	want := wantNamed(p, q)
	if method.Named(p, q) != want || method.Named(q, p) != want {
		t.Errorf("Named(%s, %s) = %v, other way round %v, want %v", brief(p), brief(q), method.Named(p, q), method.Named(q, p), want)
	}
	if !method.Named(p, p) || !method.Named(q, copied(q)) {
		t.Errorf("Named(%s, %s) of itself is false", brief(p), brief(q))
	}
}

// statuses are those that the tests go by, of which but three change anything.
var statuses = []int{301, 302, 303, 300, 304, 305, 306, 307, 308, 309, 310, 0, 1, 30, 99, 100, 101, 200, 204, 299, 311, 399, 400, 404, 500, 3010, 3030, -1, -301, -302, -303, -300, 301 + 256, 302 - 256, 303 + 1<<16, 301 + 1<<32, 302 - 1<<32, 303 + 1<<40, math.MaxInt, math.MinInt, math.MaxInt32, math.MinInt32}

// checkReq is all of the promises, of a request, an address, and each status.
func checkReq(t *testing.T, q api.Req, next api.Url) {
	t.Helper()
	checkAway(t, q, next)
	for _, status := range statuses {
		checkChange(t, q, status)
	}
	if method.Plain(q.Heads) != wantPlain(q.Heads) {
		t.Errorf("Plain(%s) = %v", brief(q.Heads), method.Plain(q.Heads))
	}
	checkNamed(t, q, wantAway(q, next))
	checkNamed(t, q, wantChange(q, 303))
}

func parsed(t testing.TB, s string) api.Url {
	t.Helper()
	u, is := url.Parse(s)
	if !is {
		t.Fatalf("%.200q is no address", s)
	}
	return u
}

// from is the origin of an address's text.
func from(t testing.TB, s string) api.Origin {
	t.Helper()
	return wantOf(parsed(t, s))
}

func field(name, value string) api.Field { return api.Field{Name: name, Value: value} }

// fields are those of some names, with values that tell their places.
func fields(names ...string) []api.Field {
	var out []api.Field
	for i, name := range names {
		out = append(out, field(name, fmt.Sprint(i)))
	}
	return out
}

// full is a request of which no part is zero.
func full(t testing.TB) api.Req {
	t.Helper()
	return api.Req{
		Url: parsed(t, "https://u:p@a.org:81/b//c?d#e"), Method: "POST",
		Heads: fields("Accept", "content-TYPE", "Authorization", "Content-Length", "Content-Encoding", "AUTHORIZATION", "accept", "content-language", "Content-Location", "content-type", "X"),
		Body:  true, Origin: from(t, "https://b.org:82"), Mode: api.MoNoCors, Redirect: api.ReManual, Policy: api.PoCross,
		Referrer: "https://c.org/x", Tainted: true, Cross: true, Count: 7,
	}
}

// The chapter's section "Examples", and the third one of the whole document.
func TestExamples(t *testing.T) {
	q := api.Req{Url: parsed(t, "http://a.org"), Method: "POST", Body: true, Heads: fields("Accept", "Content-Type")}
	if got := method.Change(q, 302); got.Method != "GET" || got.Body {
		t.Errorf("POST behind 302 is %s", brief(got))
	}
	if got := method.Change(q, 307); got.Method != "POST" || !got.Body {
		t.Errorf("POST behind 307 is %s", brief(got))
	}
	if got := method.Change(q, 303); got.Method != "GET" || got.Body || !slices.Equal(got.Heads, fields("Accept")) {
		t.Errorf("POST behind 303 is %s", brief(got))
	}
}

// methods are some of which three are told apart by statuses.
var methods = []string{"POST", "GET", "HEAD", "PUT", "DELETE", "OPTIONS", "PATCH", "post", "get", "head", "Post", "Get", "Head", "pOST", "POSt", "", " ", "P", "POS", "POSTS", "GE", "GETS", "HEA", "HEADS", "POST ", " POST", " GET", "HEAD ", "GET,HEAD", "POST,GET", "POSTPOST", "POST\x00", "\x00GET", "\xff", "P\xc3\x96ST", "*"}

// P20.1: statuses near and far of those that change methods, with methods that they change, and that they do not.
func TestRewrites(t *testing.T) {
	for _, x := range []struct {
		status int
		only   string
		but    []string
	}{
		{status: 301, only: "POST"}, {status: 302, only: "POST"}, {status: 303, but: []string{"GET", "HEAD"}},
	} {
		for _, m := range methods {
			want := x.only == m || x.but != nil && !slices.Contains(x.but, m)
			if got := method.Rewrites(x.status, m); got != want {
				t.Errorf("Rewrites(%d, %q) = %v", x.status, m, got)
			}
		}
	}
	for _, status := range []int{300, 304, 305, 306, 307, 308, 309, 310, 0, 1, 3, 30, 200, 201, 299, 400, 401, 402, 403, 500, -1, -301, -302, -303, math.MaxInt, math.MinInt} {
		for _, m := range methods {
			if method.Rewrites(status, m) {
				t.Errorf("Rewrites(%d, %q) = true", status, m)
			}
		}
	}
}

// P20.1: each status, and numbers that are one of them in fewer bits.
func TestRewritesOfEachStatus(t *testing.T) {
	all := slices.Clone(statuses)
	for status := -1100; status <= 1100; status++ {
		all = append(all, status)
	}
	for _, status := range []int{301, 302, 303} {
		for bits := range 64 {
			all = append(all, status^1<<bits, status+1<<bits, status-1<<bits, -status^1<<bits)
		}
	}
	for _, status := range all {
		for _, m := range methods {
			if got, want := method.Rewrites(status, m), wantRewrites(status, m); got != want {
				t.Errorf("Rewrites(%d, %q) = %v", status, m, got)
			}
		}
		checkChange(t, full(t), status)
	}
}

// P20.1: methods with each byte at each place, with one more, and with one less.
func TestRewritesOfEachByte(t *testing.T) {
	for _, m := range []string{"GET", "HEAD", "POST", "PUT"} {
		for i := range len(m) + 1 {
			var all []string
			for c := range 256 {
				all = append(all, m[:i]+string([]byte{byte(c)})+m[min(i+1, len(m)):], m[:i]+string([]byte{byte(c)})+m[i:])
			}
			for _, s := range append(all, m[:i], m[i:]) {
				for status := 299; status <= 309; status++ {
					if got, want := method.Rewrites(status, s), wantRewrites(status, s); got != want {
						t.Errorf("Rewrites(%d, %q) = %v", status, s, got)
					}
				}
			}
		}
	}
}

// alike are names that only look like the four, or like Authorization.
var alike = []string{
	"", "Content", "Content-", "Type", "-Type", "Content-Typ", "ontent-Type", "Content-Types", "XContent-Type", "X-Content-Type", "Content-Type-X", "ContentType", "Content_Type", "Content--Type", "Content-Type ", " Content-Type", "Content-Type:", "Content-Type\x00", "Content -Type", "Content-Type, Accept", "Content-T\xc3\xbdpe", "Co\xc3\xb1tent-Type",
	"Content-Length", "Content-Disposition", "Content-Range", "Content-MD5", "Content-Security-Policy", "Content-Encodings", "Content-Encodin", "Content-Languages", "Content-Lang", "Content-Locations", "Location", "Language", "Encoding", "Accept-Encoding", "Accept-Language", "Transfer-Encoding", "Referer", "Origin", "Cookie",
	"Authorizations", "Authorizatio", "uthorization", "Proxy-Authorization", "Authorization-X", "Authorisation", "Author-ization", "Authorization ", " Authorization", "Authorization:", "Authorization\x00", "WWW-Authenticate", "Authenti\xc3\xa7ation", "Authorizat\xc4\xb1on",
}

// spelt are the ways to write a name.
func spelt(name string) []string {
	upper := strings.ToUpper(name)
	return []string{low(name), upper, name, upper[:1] + low(name)[1:], low(name)[:1] + upper[1:], low(name)[:len(name)-1] + upper[len(name)-1:]}
}

// four are the four names as the document writes them.
var four = []string{"Content-Encoding", "Content-Language", "Content-Location", "Content-Type"}

// P20.1: none, each of the four names, however written, with empty values, more than once, among others, and names that look alike.
func TestPlain(t *testing.T) {
	for _, l := range [][]api.Field{nil, {}, fields("Accept"), fields(alike...), fields("Authorization", "authorization"), {field("Accept", "Content-Type"), field("X", "content-type: a")}} {
		if !method.Plain(l) {
			t.Errorf("Plain(%s) = false", brief(l))
		}
	}
	for _, name := range four {
		for _, s := range spelt(name) {
			for _, value := range []string{"", "x", "text/plain", "\x00", strings.Repeat("v", 1<<12)} {
				f := field(s, value)
				for _, l := range [][]api.Field{{f}, {f, f}, {f, field("Accept", "y")}, {field("Accept", "y"), f}, append(fields(alike...), f), append([]api.Field{f}, fields(alike...)...), {field("a", ""), f, field("b", ""), f, field("Content-Length", "3")}} {
					if method.Plain(l) {
						t.Errorf("Plain(%s) = true", brief(l))
					}
				}
			}
		}
	}
	for bits := range 1 << len(four) {
		var names []string
		for i, name := range four {
			if bits>>i&1 == 1 {
				names = append(names, name)
			}
		}
		if got := method.Plain(fields(names...)); got != (bits == 0) {
			t.Errorf("Plain of %v = %v", names, got)
		}
	}
}

// P20.1, P20.2, P20.3: names with each byte at each place, with one more, and with one less.
func TestNamesOfEachByte(t *testing.T) {
	q, next := full(t), parsed(t, "https://c.org")
	for _, name := range append([]string{"Authorization"}, four...) {
		for i := range len(name) + 1 {
			all := []string{name[:i], name[i:], name[:i] + name[min(i+1, len(name)):]}
			for c := range 256 {
				all = append(all, name[:i]+string([]byte{byte(c)})+name[min(i+1, len(name)):], name[:i]+string([]byte{byte(c)})+name[i:])
			}
			for _, s := range all {
				q.Heads = []api.Field{field("a", "1"), field(s, "2"), field("b", "3")}
				if got, want := method.Plain(q.Heads), wantPlain(q.Heads); got != want {
					t.Errorf("Plain(%s) = %v", brief(q.Heads), got)
				}
				checkChange(t, q, 302)
				checkAway(t, q, next)
			}
		}
	}
}

// P20.2: what is left of a request, told literally.
func TestChange(t *testing.T) {
	left := []api.Field{field("Accept", "0"), field("Authorization", "2"), field("Content-Length", "3"), field("AUTHORIZATION", "5"), field("accept", "6"), field("X", "10")}
	for _, m := range methods {
		for _, status := range statuses {
			q := full(t)
			q.Method = m
			want := q
			if m == "POST" && (status == 301 || status == 302) || m != "GET" && m != "HEAD" && status == 303 {
				want.Method, want.Body, want.Heads = "GET", false, left
			}
			if got := method.Change(q, status); !wantNamed(got, want) {
				t.Errorf("Change(%s, %d) = %s", brief(q), status, brief(got))
			}
			checkChange(t, q, status)
			q.Body = false
			checkChange(t, q, status)
			q.Heads = nil
			checkChange(t, q, status)
			checkChange(t, api.Req{Method: m}, status)
			checkChange(t, api.Req{Method: m, Body: true, Heads: fields(alike...)}, status)
		}
	}
}

// P20.2: fields of the four names, however written, among others, and in each place.
func TestChangeOfFields(t *testing.T) {
	others := fields("Accept", "Content-Length", "Authorization", "accept")
	for _, name := range four {
		for _, s := range spelt(name) {
			for i := range len(others) + 1 {
				for j := i; j <= len(others); j++ {
					// The same field in two places.
					l := slices.Insert(slices.Insert(slices.Clone(others), j, field(s, "x")), i, field(name, ""))
					q := api.Req{Method: "POST", Body: true, Heads: l}
					for _, status := range []int{301, 302, 303} {
						if got := method.Change(q, status); !slices.Equal(got.Heads, others) {
							t.Errorf("Change(%s, %d) = %s", brief(q), status, brief(got))
						}
						checkChange(t, q, status)
					}
					for _, status := range []int{200, 304, 307, 308} {
						if got := method.Change(q, status); !slices.Equal(got.Heads, l) {
							t.Errorf("Change(%s, %d) = %s", brief(q), status, brief(got))
						}
						checkChange(t, q, status)
					}
				}
			}
		}
	}
	all := fields(slices.Concat(four, alike, four)...)
	want := all[len(four) : len(four)+len(alike)]
	if got := method.Change(api.Req{Method: "PUT", Heads: all}, 303); !slices.Equal(got.Heads, want) {
		t.Errorf("Change of fields that look alike leaves %s", brief(got.Heads))
	}
}

// P20.3: who asks at its own address, at the next one, at neither, is opaque, and is zero; two addresses of one origin, and of several.
func TestAway(t *testing.T) {
	for _, x := range []struct {
		o, cur, next    string
		tainted, abroad bool // abroad: at another origin than who asks
		both            bool // both: of one origin
	}{
		{o: "https://a.org", cur: "https://a.org", next: "https://a.org", both: true},
		{o: "https://a.org", cur: "https://u:p@A.org:443/x?y#z", next: "https://a.org", both: true},
		{o: "https://a.org", cur: "https://a.org", next: "https://b.org"},
		{o: "https://a.org", cur: "https://a.org", next: "http://a.org"},
		{o: "https://a.org", cur: "https://a.org", next: "https://a.org:80"},
		{o: "https://a.org", cur: "https://a.org", next: "data:,"},
		{o: "https://b.org", cur: "https://a.org", next: "https://a.org:443/x", abroad: true, both: true},
		{o: "https://b.org", cur: "http://[0::1]", next: "http://[::1]:80", abroad: true, both: true},
		{o: "https://b.org", cur: "https://a.org", next: "https://b.org", tainted: true, abroad: true},
		{o: "https://b.org", cur: "https://a.org", next: "http://a.org", tainted: true, abroad: true},
		{o: "https://b.org", cur: "http://a.org:443", next: "https://a.org", tainted: true, abroad: true},
		{o: "https://b.org", cur: "https://a.org:81", next: "https://a.org:82", tainted: true, abroad: true},
		{o: "https://b.org", cur: "https://a.org", next: "https://x.a.org", tainted: true, abroad: true},
		{o: "https://b.org", cur: "http://1.2.3.4", next: "http://1.2.3.5", tainted: true, abroad: true},
		{o: "https://b.org", cur: "https://a.org", next: "https://c.org", tainted: true, abroad: true},
		{o: "http://a.org", cur: "https://a.org", next: "https://c.org", tainted: true, abroad: true},
		{o: "data:,", cur: "https://a.org", next: "https://a.org/x", abroad: true, both: true},
		{o: "data:,", cur: "https://a.org", next: "https://b.org", tainted: true, abroad: true},
		{o: "data:,", cur: "data:,", next: "data:,", tainted: true, abroad: true},
		{o: "https://a.org", cur: "data:,", next: "data:,", tainted: true, abroad: true},
		{o: "https://a.org", cur: "data:,", next: "https://a.org", tainted: true, abroad: true},
		{o: "https://a.org", cur: "about:blank", next: "blob:https://a.org/x", tainted: true, abroad: true},
	} {
		for bits := range 4 {
			for mode := -1; mode <= api.Modes; mode++ {
				q := full(t)
				q.Url, q.Origin, q.Mode = parsed(t, x.cur), from(t, x.o), mode
				q.Tainted, q.Cross = bits&1 == 1, bits&2 == 2
				want := q
				want.Url, want.Count = parsed(t, x.next), 8
				want.Tainted = q.Tainted || x.tainted
				want.Cross = q.Cross || x.abroad && mode == api.MoCors
				if !x.both {
					want.Heads = slices.Delete(slices.Delete(slices.Clone(q.Heads), 5, 6), 2, 3)
				}
				if got := method.Away(q, want.Url); !wantNamed(got, want) {
					t.Errorf("Away(%s, %s) = %s, want %s", brief(q), x.next, brief(got), brief(want))
				}
				checkAway(t, q, want.Url)
				if q.Origin.Opaque {
					// The zero origin may not be, so it is no address's own, just as the opaque one.
					q.Origin, want.Origin = api.Origin{}, api.Origin{}
					if got := method.Away(q, want.Url); !wantNamed(got, want) {
						t.Errorf("Away(%s, %s) = %s, want %s", brief(q), x.next, brief(got), brief(want))
					}
					checkAway(t, q, want.Url)
				}
			}
		}
	}
}

// webs are texts of addresses of the web, of which several have one origin, others such of other addresses.
var (
	webs = []string{
		"https://a.org", "https://u:p@A.org:443/b//c?d#e", "https://a.org:80", "https://b.org", "https://localhost/", "https://[1::ab]:80/x/",
		"http://a.org", "HTTP://u@a.ORG:80/?#", "http://a.org:443", "http://b.org", "http://127.0.0.1:65535/#", "http://[::1]/x", "http://[0::1]",
	}
	others = []string{"about:blank", "data:", "data:,", "data:a,b?c#d", "blob:https://a.org/b", "blob:?#e"}
)

// changes are what makes addresses of the web that may be ones that may not be, one part wrong alone.
var changes = []func(u *api.Url){
	func(u *api.Url) { u.Scheme = "" },
	func(u *api.Url) { u.Scheme = "ftp" },
	func(u *api.Url) { u.Scheme = strings.ToUpper(u.Scheme) },
	func(u *api.Url) { u.Scheme = "blob" },
	func(u *api.Url) { u.Host = api.Host{} },
	func(u *api.Url) { u.Host.Kind = api.HoKinds },
	func(u *api.Url) { u.Host.Name += "." },
	func(u *api.Url) { u.Host.Num -= 1 << 33 },
	func(u *api.Url) { u.Host.Six[3] = -1 },
	func(u *api.Url) { u.Port = ports[u.Scheme] },
	func(u *api.Url) { u.Port = 65536 },
	func(u *api.Url) { u.Port = -2 },
	func(u *api.Url) { u.Path = nil },
	func(u *api.Url) { u.Path = []string{"x y"} },
	func(u *api.Url) { u.Opaque = "x" },
	func(u *api.Url) { u.Query, u.HasQuery = "x", false },
	func(u *api.Url) { u.User = "x@" },
	func(u *api.Url) { u.Pass = "\xff" },
	func(u *api.Url) { u.Frag, u.HasFrag = "`", true },
}

// addresses are some that may be, and some that may not: the zero one, and ones with one part wrong alone.
func addresses(t testing.TB) []api.Url {
	var all []api.Url
	for _, s := range slices.Concat(webs, others) {
		all = append(all, parsed(t, s))
	}
	none := []api.Url{{}, {Port: -1}, {Scheme: "https"}, {Scheme: "http", Port: -1, Path: []string{""}}, {Scheme: "data", Port: 0}}
	for _, s := range []string{"https://a.org", "http://127.0.0.1:81/"} {
		for _, change := range changes {
			u := parsed(t, s)
			change(&u)
			none = append(none, u)
		}
	}
	for _, u := range none {
		if url.May(u) {
			t.Fatalf("%s may be", brief(u))
		}
	}
	return append(all, none...)
}

// origins are those of addresses, the opaque one, the zero one, and such as may not be.
func origins(t testing.TB) []api.Origin {
	all := []api.Origin{opaque, {}, {Port: -1}, {Scheme: "https", Port: -1}, {Opaque: true, Port: -1}}
	for _, s := range webs {
		all = append(all, from(t, s))
	}
	for _, change := range []func(o *api.Origin){
		func(o *api.Origin) { o.Opaque = true },
		func(o *api.Origin) { o.Scheme = "HTTPS" },
		func(o *api.Origin) { o.Scheme = "ftp" },
		func(o *api.Origin) { o.Host = api.Host{} },
		func(o *api.Origin) { o.Host.Name = "A.org" },
		func(o *api.Origin) { o.Host.Six[7] = 1 },
		func(o *api.Origin) { o.Port = 443 },
		func(o *api.Origin) { o.Port = 65536 },
	} {
		o := from(t, "https://a.org")
		change(&o)
		if named(o) {
			t.Fatalf("%s may be", brief(o))
		}
		all = append(all, o)
	}
	return all
}

// P20.3: each origin, from each address to each.
func TestAwayOfEach(t *testing.T) {
	all := addresses(t)
	for i, cur := range all {
		for j, next := range all {
			for k, o := range origins(t) {
				q := api.Req{Url: cur, Method: methods[k%5], Heads: fields("Accept", "authorization", "Content-Type"), Origin: o, Mode: (i + j + k) % 4, Tainted: (i+k)%5 == 0, Cross: (j+k)%3 == 0, Count: k}
				checkAway(t, q, next)
			}
		}
	}
}

// P20.3: of the fields just those named Authorization go, and just on the way to another origin.
func TestAwayOfFields(t *testing.T) {
	others := fields("Accept", "Content-Type", "Proxy-Authorization", "accept")
	home, same, away := parsed(t, "https://a.org/x"), parsed(t, "https://a.org:443/y"), parsed(t, "https://b.org")
	for _, s := range spelt("Authorization") {
		for i := range len(others) + 1 {
			for j := i; j <= len(others); j++ {
				l := slices.Insert(slices.Insert(slices.Clone(others), j, field(s, "x")), i, field("Authorization", ""))
				for _, l := range [][]api.Field{l, slices.Delete(slices.Clone(l), i, i+1)} {
					q := api.Req{Url: home, Method: "POST", Body: true, Heads: l, Origin: from(t, "https://a.org")}
					if got := method.Away(q, same); !slices.Equal(got.Heads, l) {
						t.Errorf("Away(%s, %s) = %s", brief(q), brief(same), brief(got))
					}
					if got := method.Away(q, away); !slices.Equal(got.Heads, others) {
						t.Errorf("Away(%s, %s) = %s", brief(q), brief(away), brief(got))
					}
					checkReq(t, q, same)
					checkReq(t, q, away)
				}
			}
		}
	}
	for _, l := range [][]api.Field{nil, {}, others, fields(alike...), fields(four...)} {
		for _, next := range []api.Url{same, away, {}} {
			q := api.Req{Url: home, Heads: l}
			if got := method.Away(q, next); !slices.Equal(got.Heads, l) {
				t.Errorf("Away(%s, %s) = %s", brief(q), brief(next), brief(got))
			}
		}
	}
	only := fields("Authorization", "AUTHORIZATION", "authorization")
	if got := method.Away(api.Req{Url: home, Heads: only}, away); len(got.Heads) != 0 {
		t.Errorf("Away of fields Authorization alone leaves %s", brief(got.Heads))
	}
}

// P20.3: the count, also of the greatest number, which is followed by the least one.
func TestAwayCounts(t *testing.T) {
	for n, want := range map[int]int{
		0: 1, 1: 2, 19: 20, 20: 21, 21: 22, -1: 0, -2: -1, math.MaxInt8: 128, math.MaxInt16: 1 << 15, math.MaxInt32: 1 << 31, math.MaxUint32: 1 << 32, math.MinInt32 - 1: math.MinInt32,
		math.MaxInt - 1: math.MaxInt, math.MaxInt: math.MinInt, math.MinInt: math.MinInt + 1,
	} {
		for _, next := range []string{"https://a.org", "https://b.org", "data:,"} {
			q := full(t)
			q.Count = n
			if got := method.Away(q, parsed(t, next)).Count; got != want {
				t.Errorf("Away of the count %d has %d", n, got)
			}
			checkReq(t, q, parsed(t, next))
		}
	}
}

// differ are what makes a request another one, in one part alone.
var differ = []func(q *api.Req){
	func(q *api.Req) { q.Url.Scheme += "s" },
	func(q *api.Req) { q.Url.Scheme = strings.ToUpper(q.Url.Scheme) + "X" },
	func(q *api.Req) { q.Url.User += "u" },
	func(q *api.Req) { q.Url.Pass += "p" },
	func(q *api.Req) { q.Url.Host.Kind++ },
	func(q *api.Req) { q.Url.Host.Name += "a" },
	func(q *api.Req) { q.Url.Host.Num++ },
	func(q *api.Req) { q.Url.Host.Six[0]++ },
	func(q *api.Req) { q.Url.Host.Six[7]-- },
	func(q *api.Req) { q.Url.Port++ },
	func(q *api.Req) { q.Url.Path = append(slices.Clone(q.Url.Path), "") },
	func(q *api.Req) { q.Url.Path = append([]string{"x"}, q.Url.Path...) },
	func(q *api.Req) { q.Url.Opaque += "o" },
	func(q *api.Req) { q.Url.Query += "q" },
	func(q *api.Req) { q.Url.HasQuery = !q.Url.HasQuery },
	func(q *api.Req) { q.Url.Frag += "f" },
	func(q *api.Req) { q.Url.HasFrag = !q.Url.HasFrag },
	func(q *api.Req) { q.Method += "S" },
	func(q *api.Req) { q.Method = low(q.Method) + "x" },
	func(q *api.Req) { q.Heads = append(slices.Clone(q.Heads), field("X", "10")) },
	func(q *api.Req) { q.Heads = append([]api.Field{{}}, q.Heads...) },
	func(q *api.Req) { q.Body = !q.Body },
	func(q *api.Req) { q.Origin.Opaque = !q.Origin.Opaque },
	func(q *api.Req) { q.Origin.Scheme += "s" },
	func(q *api.Req) { q.Origin.Host.Kind-- },
	func(q *api.Req) { q.Origin.Host.Name += "." },
	func(q *api.Req) { q.Origin.Host.Num-- },
	func(q *api.Req) { q.Origin.Host.Six[0]++ },
	func(q *api.Req) { q.Origin.Host.Six[4]++ },
	func(q *api.Req) { q.Origin.Port++ },
	func(q *api.Req) { q.Mode++ },
	func(q *api.Req) { q.Mode += 1 << 40 },
	func(q *api.Req) { q.Redirect-- },
	func(q *api.Req) { q.Redirect += 1 << 32 },
	func(q *api.Req) { q.Policy++ },
	func(q *api.Req) { q.Policy -= 1 << 32 },
	func(q *api.Req) { q.Referrer += " " },
	func(q *api.Req) { q.Referrer = strings.ToUpper(q.Referrer) + "/" },
	func(q *api.Req) { q.Tainted = !q.Tainted },
	func(q *api.Req) { q.Cross = !q.Cross },
	func(q *api.Req) { q.Count++ },
	func(q *api.Req) { q.Count ^= math.MinInt },
}

// P20.3: a request and itself, also with other memory, and with each part, and each two parts, changed.
func TestNamed(t *testing.T) {
	bare := api.Req{Url: parsed(t, "http://127.0.0.1"), Method: "GET", Origin: opaque}
	other := api.Req{Url: parsed(t, "data:,"), Heads: []api.Field{}, Origin: from(t, "http://[::1]:81"), Mode: -1, Redirect: math.MinInt, Policy: 99, Referrer: "\xff", Count: math.MaxInt}
	for _, q := range []api.Req{{}, bare, other, full(t)} {
		checkNamed(t, q, copied(q))
		if !method.Named(q, q) {
			t.Errorf("Named(%s) of itself is false", brief(q))
		}
		for i, f := range differ {
			p := copied(q)
			f(&p)
			if method.Named(p, q) || method.Named(q, p) {
				t.Errorf("Named of %s and change %d of it is true", brief(q), i)
			}
			for _, g := range differ[:i] {
				p := copied(p)
				g(&p)
				checkNamed(t, p, q)
			}
		}
	}
	p, q := full(t), full(t)
	p.Heads, q.Heads, p.Url.Path, q.Url.Path = nil, []api.Field{}, nil, []string{}
	if !method.Named(p, q) || !method.Named(q, p) {
		t.Errorf("lists without elements are not the same")
	}
}

// P20.3: fields, one more, one less, in another order, of another name, and of another value; segments likewise.
func TestNamedOfLists(t *testing.T) {
	q := full(t)
	q.Url.Path = []string{"b", "", "c", "C", "b"}
	for i, f := range q.Heads {
		for _, l := range [][]api.Field{
			slices.Delete(slices.Clone(q.Heads), i, i+1), slices.Insert(slices.Clone(q.Heads), i, f), slices.Insert(slices.Clone(q.Heads), i, api.Field{}), q.Heads[:i], q.Heads[i+1:],
			slices.Replace(slices.Clone(q.Heads), i, i+1, field(f.Name, f.Value+" ")), slices.Replace(slices.Clone(q.Heads), i, i+1, field(f.Name+" ", f.Value)), slices.Replace(slices.Clone(q.Heads), i, i+1, field(f.Value, f.Name)),
			slices.Replace(slices.Clone(q.Heads), i, i+1, field(f.Name+f.Value, "")), slices.Replace(slices.Clone(q.Heads), i, i+1, api.Field{}), slices.Replace(slices.Clone(q.Heads), i, i+1, field(low(f.Name)+"-", f.Value)),
		} {
			p := q
			p.Heads = l
			if method.Named(p, q) || method.Named(q, p) {
				t.Errorf("Named of fields %s and %s is true", brief(l), brief(q.Heads))
			}
			checkNamed(t, p, q)
		}
		for j := range i {
			p := copied(q)
			p.Heads[i], p.Heads[j] = p.Heads[j], p.Heads[i]
			checkNamed(t, p, q)
			if method.Named(p, q) {
				t.Errorf("Named of fields in another order is true")
			}
		}
		p := copied(q)
		p.Heads[i].Name = strings.ToUpper(f.Name)
		checkNamed(t, p, q)
	}
	for i, s := range q.Url.Path {
		for _, l := range [][]string{
			slices.Delete(slices.Clone(q.Url.Path), i, i+1), slices.Insert(slices.Clone(q.Url.Path), i, s), slices.Insert(slices.Clone(q.Url.Path), i, ""), q.Url.Path[:i], q.Url.Path[i+1:],
			slices.Replace(slices.Clone(q.Url.Path), i, i+1, s+"/"), slices.Replace(slices.Clone(q.Url.Path), i, i+1, s+" "), slices.Replace(slices.Clone(q.Url.Path), i, i+1, "", s),
		} {
			p := q
			p.Url.Path = l
			checkNamed(t, p, q)
			if method.Named(p, q) {
				t.Errorf("Named of paths %q and %q is true", l, q.Url.Path)
			}
		}
	}
}

// lost is what a request has lost on its way.
type lost struct{ method, auth bool }

// checkLost is P20.4, of what follows a request.
func checkLost(t *testing.T, q api.Req, l lost) {
	t.Helper()
	if l.method && (q.Method != "GET" || q.Body || !method.Plain(q.Heads)) {
		t.Errorf("what has lost its method is %s", brief(q))
	}
	if l.auth && !slices.Equal(q.Heads, wantDrop(q.Heads, "authorization")) {
		t.Errorf("what has lost its Authorization is %s", brief(q))
	}
}

// steps goes on by each status, and to each address, to some depth, and tells of what follows.
func steps(q api.Req, l lost, next []api.Url, depth int, tell func(api.Req, lost)) {
	tell(q, l)
	if depth == 0 {
		return
	}
	for _, status := range []int{200, 301, 302, 303, 307} {
		behind := lost{l.method || wantRewrites(status, q.Method), l.auth}
		p := method.Change(q, status)
		tell(p, behind)
		for _, u := range next {
			gone := behind
			gone.auth = gone.auth || !wantSame(wantOf(p.Url), wantOf(u))
			steps(method.Away(p, u), gone, next, depth-1, tell)
		}
	}
}

// P20.4: who has lost its method, its body, or its Authorization does not get it back, whichever way it goes.
func TestLost(t *testing.T) {
	var next []api.Url
	for _, s := range []string{"https://a.org", "https://A.org/x", "https://b.org", "data:,"} {
		next = append(next, parsed(t, s))
	}
	for _, m := range []string{"POST", "GET", "HEAD", "PUT", "post"} {
		for _, body := range []bool{false, true} {
			q := api.Req{Url: next[0], Method: m, Body: body, Heads: fields("Authorization", "Accept", "Content-Type", "authorization"), Origin: from(t, "https://b.org"), Mode: api.MoCors}
			steps(q, lost{}, next, 3, func(q api.Req, l lost) {
				checkLost(t, q, l)
				if !l.method && (q.Method != m || q.Body != body || method.Plain(q.Heads)) || !l.auth && len(wantDrop(q.Heads, "authorization")) != len(q.Heads)-2 {
					t.Errorf("what has lost %+v is %s", l, brief(q))
				}
				if !slices.ContainsFunc(q.Heads, func(f api.Field) bool { return f == field("Accept", "1") }) {
					t.Errorf("what has lost %+v is without Accept: %s", l, brief(q))
				}
			})
		}
	}
}

// P20.4: long ways, each of another kind.
func TestLostFarAway(t *testing.T) {
	all := addresses(t)
	for start := range all {
		q, l := full(t), lost{}
		q.Url, q.Tainted, q.Cross = all[start], false, false
		for i := range 60 {
			status := statuses[(start+i*5)%len(statuses)]
			l.method = l.method || wantRewrites(status, q.Method)
			q = method.Change(q, status)
			u := all[(start*11+i*13)%len(all)]
			if i%3 == 0 {
				u = q.Url
			}
			l.auth = l.auth || !wantSame(wantOf(q.Url), wantOf(u))
			tainted, crossed := q.Tainted, q.Cross
			q = method.Away(q, u)
			checkLost(t, q, l)
			if tainted && !q.Tainted || crossed && !q.Cross || q.Count != 8+i {
				t.Errorf("step %d of %d is %s", i, start, brief(q))
			}
		}
		if !l.method || !l.auth {
			t.Errorf("way %d lost but %+v", start, l)
		}
	}
}

// Parts that change nothing, and are not changed.
func TestOtherParts(t *testing.T) {
	for i, f := range differ {
		for _, m := range methods[:5] {
			for _, next := range []string{"https://u:p@a.org:81/b//c?d#e", "https://a.org:81", "https://b.org:82", "data:,"} {
				q := full(t)
				q.Method = m
				f(&q)
				checkReq(t, q, parsed(t, next))
				q.Tainted, q.Cross, q.Mode = false, false, i%3
				checkReq(t, q, parsed(t, next))
			}
		}
	}
}

// P1: each byte, and long texts, in each part.
func TestEachByteAndLong(t *testing.T) {
	texts := []string{strings.Repeat("a", 1<<13), strings.Repeat("%", 1<<13), strings.Repeat("\xff", 1<<13), strings.Repeat("POST", 1<<11), strings.Repeat("é", 1<<12)}
	for c := range 256 {
		texts = append(texts, string([]byte{byte(c)}))
	}
	next := parsed(t, "https://b.org")
	for _, s := range texts {
		for _, put := range []func(q *api.Req){
			func(q *api.Req) { q.Method = s },
			func(q *api.Req) { q.Url.Scheme += s },
			func(q *api.Req) { q.Url.User, q.Url.Pass = s, s },
			func(q *api.Req) { q.Url.Host.Name += s },
			func(q *api.Req) { q.Url.Path = []string{s, s} },
			func(q *api.Req) { q.Url.Opaque = s },
			func(q *api.Req) { q.Url.Query, q.Url.HasQuery = s, true },
			func(q *api.Req) { q.Url.Frag, q.Url.HasFrag = s, true },
			func(q *api.Req) { q.Origin.Scheme += s },
			func(q *api.Req) { q.Origin.Host.Name += s },
			func(q *api.Req) { q.Referrer = s },
			func(q *api.Req) { q.Heads[1].Name += s },
			func(q *api.Req) { q.Heads[2].Name = s + q.Heads[2].Name },
			func(q *api.Req) { q.Heads[2].Value = s },
		} {
			q := full(t)
			put(&q)
			q.Tainted, q.Cross = false, false
			checkAway(t, q, next)
			checkAway(t, q, q.Url)
			checkAway(t, full(t), q.Url)
			checkChange(t, q, 303)
			checkChange(t, q, 302)
			checkChange(t, q, 307)
			checkNamed(t, q, full(t))
		}
	}
	long := api.Req{Url: next, Method: "POST", Heads: slices.Repeat(fields("Authorization", "Accept", "content-type"), 1<<14)}
	checkReq(t, long, next)
	checkReq(t, long, api.Url{})
	long.Url.Path = slices.Repeat([]string{"x"}, 1<<16)
	checkAway(t, api.Req{Url: long.Url}, long.Url)
}

// shares tells whether two texts have memory in common.
func shares(a, b string) bool {
	if a == "" || b == "" {
		return false
	}
	from, start := uintptr(unsafe.Pointer(unsafe.StringData(a))), uintptr(unsafe.Pointer(unsafe.StringData(b)))
	return from < start+uintptr(len(b)) && start < from+uintptr(len(a))
}

// texts are all texts that a request holds.
func texts(q api.Req) []string {
	all := append([]string{q.Method, q.Referrer, q.Origin.Scheme, q.Origin.Host.Name, q.Url.Scheme, q.Url.User, q.Url.Pass, q.Url.Host.Name, q.Url.Opaque, q.Url.Query, q.Url.Frag}, q.Url.Path...)
	for _, f := range q.Heads {
		all = append(all, f.Name, f.Value)
	}
	return all
}

// fresh is a request of texts of its own.
func fresh(q api.Req) api.Req {
	q = copied(q)
	for _, s := range []*string{&q.Method, &q.Referrer, &q.Origin.Scheme, &q.Origin.Host.Name, &q.Url.Scheme, &q.Url.User, &q.Url.Pass, &q.Url.Host.Name, &q.Url.Opaque, &q.Url.Query, &q.Url.Frag} {
		*s = strings.Clone(*s)
	}
	for i := range q.Url.Path {
		q.Url.Path[i] = strings.Clone(q.Url.Path[i])
	}
	for i, f := range q.Heads {
		q.Heads[i] = field(strings.Clone(f.Name), strings.Clone(f.Value))
	}
	return q
}

// checkOwn tells whether no text of an answer, and no list, lies in what was handed in, or in another answer.
func checkOwn(t *testing.T, answer api.Req, handed ...api.Req) {
	t.Helper()
	before := make([]api.Req, len(handed))
	for i, q := range handed {
		before[i] = copied(q)
		for _, s := range texts(answer) {
			for _, x := range texts(q) {
				if shares(s, x) {
					t.Errorf("%.200q of %s lies in %s", s, brief(answer), brief(q))
				}
			}
		}
	}
	// Also of what stands behind the end of a list: there is room.
	for i := range answer.Heads[:cap(answer.Heads)] {
		answer.Heads[:cap(answer.Heads)][i] = field("changed", "later")
	}
	for i := range answer.Url.Path[:cap(answer.Url.Path)] {
		answer.Url.Path[:cap(answer.Url.Path)][i] = "changed"
	}
	for i, q := range handed {
		if !wantNamed(q, before[i]) {
			t.Errorf("%s became %s, for it was answered", brief(before[i]), brief(q))
		}
	}
}

// R3: what is answered is the caller's own.
func TestOwn(t *testing.T) {
	for _, s := range []string{"https://u:p@a.org:81/b//c?d#e", "https://a.org", "data:a,b?c#d"} {
		for _, u := range addresses(t) {
			for _, status := range []int{200, 302, 303} {
				q := full(t)
				q.Url = u
				q = fresh(q)
				checkOwn(t, method.Change(q, status), q, method.Change(q, status))
				next := fresh(api.Req{Url: parsed(t, s)})
				checkOwn(t, method.Away(q, next.Url), q, next, method.Away(q, next.Url))
				checkOwn(t, method.Away(q, q.Url), q, method.Away(q, q.Url))
			}
		}
	}
}

// R3: what was answered stays as it was when what was handed in changes later.
func TestLaterChanges(t *testing.T) {
	for _, status := range []int{302, 307} {
		for _, s := range []string{"https://a.org:81/x/y", "https://b.org/x/y"} {
			q, next := full(t), parsed(t, s)
			changed, gone := method.Change(q, status), method.Away(q, next)
			for i := range q.Heads {
				q.Heads[i] = field("changed", "later")
			}
			for i := range q.Url.Path {
				q.Url.Path[i] = "changed"
			}
			for i := range next.Path {
				next.Path[i] = "changed"
			}
			if !wantNamed(changed, wantChange(full(t), status)) || !wantNamed(gone, wantAway(full(t), parsed(t, s))) {
				t.Errorf("%s and %s changed later", brief(changed), brief(gone))
			}
		}
	}
}

// R3, R5: what is handed in stays as it was, and what was asked before changes nothing.
func TestAskedAgain(t *testing.T) {
	all, who := addresses(t), origins(t)
	for range 3 {
		for i, u := range all {
			// There is room behind the end of what is handed in.
			path := append(slices.Clone(u.Path), "behind", "further")
			u.Path = path[:len(u.Path)]
			heads := fields("Authorization", "Content-Type", "Accept", "behind", "further")
			q := api.Req{Url: u, Method: methods[i%5], Body: true, Heads: heads[:3], Origin: who[i%len(who)], Mode: i % 4, Policy: i % 10, Tainted: i%3 == 0, Cross: i%2 == 0}
			fieldsBefore, segments := slices.Clone(heads), slices.Clone(path)
			checkReq(t, q, all[(i*7+3)%len(all)])
			checkReq(t, api.Req{Url: all[(i*5+1)%len(all)], Heads: heads[:2], Origin: q.Origin}, u)
			if !slices.Equal(heads, fieldsBefore) || !slices.Equal(path, segments) {
				t.Errorf("%s and %s became %s and %s", brief(fieldsBefore), brief(segments), brief(heads), brief(path))
			}
		}
	}
}

// FuzzRequests holds the promises against any requests and addresses: its seeds run with the other tests.
func FuzzRequests(f *testing.F) {
	for i, s := range slices.Concat(webs, others) {
		f.Add(s, webs[i%len(webs)], webs[i%5], methods[i%len(methods)], alike[i%len(alike)], "x", statuses[i%len(statuses)], i%4, i, i)
		f.Add(webs[i%4], s, s, methods[i%4], four[i%4], "", 300+i%5, 1, math.MaxInt-i, 7*i)
		f.Add(s, s, webs[i%4], "POST", spelt("Authorization")[i%6], s, 303, i, -i, 255-i)
	}
	f.Fuzz(func(t *testing.T, raw, target, asks, m, name, value string, status, mode, count, bits int) {
		cur, _ := url.Parse(raw)
		next, _ := url.Parse(target)
		who, _ := url.Parse(asks)
		h := api.Host{Kind: api.HoDomain, Name: name}
		put := api.Url{Scheme: value, User: raw, Host: h, Port: count, Path: []string{target}, Opaque: name}
		heads := [][]api.Field{nil, {field(name, value)}, {field("Authorization", value), field(name, value), field("Accept", m)}, {field(name, m), field("content-type", value), field(m, name), field(name, "")}}[bits>>4&3]
		for _, o := range []api.Origin{wantOf(cur), wantOf(who), {Opaque: bits&1 == 1, Scheme: value, Host: h, Port: count}} {
			for _, u := range []api.Url{cur, next, put} {
				q := api.Req{Url: u, Method: m, Heads: heads, Body: bits&2 == 2, Origin: o, Mode: mode, Redirect: status, Policy: count, Referrer: value, Tainted: bits&4 == 4, Cross: bits&8 == 8, Count: count}
				checkReq(t, q, next)
				checkReq(t, q, put)
				checkChange(t, q, status)
				if method.Rewrites(status, m) != wantRewrites(status, m) {
					t.Errorf("Rewrites(%d, %.200q) = %v", status, m, method.Rewrites(status, m))
				}
				q.Mode = mode & 3
				checkNamed(t, method.Change(q, status), method.Away(q, u))
				checkAway(t, method.Change(method.Away(q, next), status), cur)
			}
		}
	})
}

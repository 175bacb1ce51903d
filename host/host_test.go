package host_test

import (
	"encoding/binary"
	"math"
	"net/netip"
	"regexp"
	"strconv"
	"strings"
	"testing"

	"postmark/api"
	"postmark/host"
)

const (
	mostFour = 4294967295
	mostSix  = 65535
	own      = 2130706433
)

var (
	a100 = strings.Repeat("a", 100)
	// Of 100 bytes each.
	dots100  = strings.Repeat("a.", 49) + "bc"
	local100 = strings.Repeat("x", 90) + ".localhost"
)

func domain(name string) api.Host { return api.Host{Kind: api.HoDomain, Name: name} }

func fourOf(n int) api.Host { return api.Host{Kind: api.HoFour, Num: n} }

func sixOf(p [8]int) api.Host { return api.Host{Kind: api.HoSix, Six: p} }

var (
	nameForm   = regexp.MustCompile(`\A[a-z0-9_-]+(\.[a-z0-9_-]+)*\z`)
	numberForm = regexp.MustCompile(`(\A|\.)[0-9]+\z`)
)

// wantName is the chapter's section "Words".
func wantName(s string) bool {
	return len(s) <= 100 && nameForm.MatchString(s) && !numberForm.MatchString(s)
}

// wantMay is P7.1.
func wantMay(h api.Host) bool {
	noPieces := h.Six == [8]int{}
	switch h.Kind {
	case 1:
		return wantName(h.Name) && h.Num == 0 && noPieces
	case 2:
		return h.Num >= 0 && h.Num <= mostFour && h.Name == "" && noPieces
	case 3:
		for _, n := range h.Six {
			if n < 0 || n > mostSix {
				return false
			}
		}
		return h.Name == "" && h.Num == 0
	}
	return false
}

// wantParse is P7.2, with numbers and pieces by the library's own addresses.
func wantParse(s string) (api.Host, bool) {
	switch {
	case len(s) >= 2 && s[0] == '[' && s[len(s)-1] == ']':
		a, err := netip.ParseAddr(s[1 : len(s)-1])
		// The library has zones, and dots among pieces.
		if err != nil || !a.Is6() || strings.ContainsAny(s, "%.") {
			return api.Host{}, false
		}
		return sixOf(piecesOf(a)), true
	case numberForm.MatchString(s):
		a, err := netip.ParseAddr(s)
		if err != nil || !a.Is4() {
			return api.Host{}, false
		}
		b := a.As4()
		return fourOf(int(binary.BigEndian.Uint32(b[:]))), true
	}
	low := lower(s)
	if !wantName(low) {
		return api.Host{}, false
	}
	return domain(low), true
}

func piecesOf(a netip.Addr) [8]int {
	var p [8]int
	b := a.As16()
	for i := range p {
		p[i] = int(binary.BigEndian.Uint16(b[2*i:]))
	}
	return p
}

// lower and upper are not the library's own, which change other letters, too.
func lower(s string) string {
	b := []byte(s)
	for i, c := range b {
		if c >= 65 && c <= 90 {
			b[i] = c + 32
		}
	}
	return string(b)
}

func upper(s string) string {
	b := []byte(s)
	for i, c := range b {
		if c >= 97 && c <= 122 {
			b[i] = c - 32
		}
	}
	return string(b)
}

// wantShow is P7.3, with numbers and pieces by the library's own addresses.
func wantShow(h api.Host) string {
	if !wantMay(h) {
		return ""
	}
	switch h.Kind {
	case 1:
		return h.Name
	case 2:
		return netip.AddrFrom4([4]byte(binary.BigEndian.AppendUint32(nil, uint32(h.Num)))).String()
	}
	var b [16]byte
	for i, n := range h.Six {
		binary.BigEndian.PutUint16(b[2*i:], uint16(n))
	}
	a := netip.AddrFrom16(b)
	// The library shows the last two pieces of these with dots.
	if a.Is4In6() {
		return "[::ffff:" + strconv.FormatInt(int64(h.Six[6]), 16) + ":" + strconv.FormatInt(int64(h.Six[7]), 16) + "]"
	}
	return "[" + a.String() + "]"
}

// wantLocal is P7.3.
func wantLocal(h api.Host) bool {
	if !wantMay(h) {
		return false
	}
	switch h.Kind {
	case 1:
		labels := strings.Split(h.Name, ".")
		return labels[len(labels)-1] == "localhost"
	case 2:
		return h.Num/16777216 == 127
	}
	return h.Six == [8]int{0, 0, 0, 0, 0, 0, 0, 1}
}

func checkParse(t *testing.T, s string, want api.Host, wantIs bool) {
	t.Helper()
	if h, is := host.Parse(s); h != want || is != wantIs {
		t.Errorf("Parse(%.120q) = %v, %v, want %v, %v", s, h, is, want, wantIs)
	}
}

func checkNone(t *testing.T, s string) {
	t.Helper()
	checkParse(t, s, api.Host{}, false)
}

// checkText is P7.2, and P7.4 of texts.
func checkText(t *testing.T, s string) {
	t.Helper()
	want, wantIs := wantParse(s)
	checkParse(t, s, want, wantIs)
	if h, is := host.Parse(s); is {
		if !host.May(h) {
			t.Errorf("%q is parsed as %v, which may not be", s, h)
		}
		checkHost(t, h)
	}
}

// checkHost is P7.1, P7.3, and P7.4 of hosts.
func checkHost(t *testing.T, h api.Host) {
	t.Helper()
	may := wantMay(h)
	if got := host.May(h); got != may {
		t.Errorf("May(%v) = %v", h, got)
	}
	s := host.Show(h)
	if want := wantShow(h); s != want {
		t.Errorf("Show(%v) = %q, want %q", h, s, want)
	}
	if got := host.Local(h); got != wantLocal(h) {
		t.Errorf("Local(%v) = %v", h, got)
	}
	if may {
		checkParse(t, s, h, true)
	} else {
		checkNone(t, s)
	}
}

func checkMay(t *testing.T, h api.Host, want bool) {
	t.Helper()
	if got := host.May(h); got != want {
		t.Errorf("May(%v) = %v", h, got)
	}
	checkHost(t, h)
}

// The chapter's section "Examples".
func TestExamples(t *testing.T) {
	checkParse(t, "EXAMPLE.org", domain("example.org"), true)
	h, is := host.Parse("[0:0::1]")
	if !is || host.Show(h) != "[::1]" || !host.Local(h) {
		t.Errorf("[0:0::1] is %q, local %v", host.Show(h), host.Local(h))
	}
	checkNone(t, "1.2.3")
}

// names are domains' names.
var names = []string{
	"a", "z", "m", "-", "_", "--", "__", "-_-", "a-", "-a", "_a", "a_", "example.org", "a.b", "a.b.c.d.e", "a-b_c", "x--y.z__w", "-.-", "_._",
	"a1", "1a", "1a.2b", "1.a", "1.2.3.4.a", "1.2.3.4a", "1.2.3.a4", "127.0.0.1.org", "1-2", "1_2", "1.2.3.-4", "1.-", "0x1", "0x7f.0.0.0x1", "1e5", "00.0a", "xn--caf-dma.org",
	"localhost", "x.localhost", a100, dots100, local100, strings.Repeat("-", 100), strings.Repeat("_", 100), strings.Repeat("1", 99) + "a", strings.Repeat("1.", 49) + "1a", strings.Repeat("a", 98) + ".b",
}

// noNames are no domains' names, and no numbers with dots.
var noNames = []string{
	"", ".", "..", "...", "a.", ".a", "a..", "..a", ".a.", "a..b", "a...b", "a.b.", ".a.b", "a.b..c", "localhost.", ".localhost", "..localhost", "x..localhost",
	" ", "a b", " a", "a ", "a\t", "\na", "a\x00", "a/b", "/", "a:1", ":", "a@b", "@", "a?b", "a#b", "a%b", "%41", "a%2eb", "a\\b", "a+b", "a!b", "a,b", "a;b", "a=b", "a&b", "a*b", "*", "(a)", "<a>", "{a}", "a|b", "a^b", "a~b", "`a`", "a'b", "\"a\"", "$a",
	"\x7f", "\x80", "\xff", "a\xff", "\xc3\xa9", "caf\xc3\xa9.org", "\xef\xbd\x81", "a\xe3\x80\x82b", "a\xc2\xadb", "\xe2\x84\xaa", "\xc4\xb0", "\xc5\xbf",
	"1", "0", "12", "255", "4294967295", "2130706433", "1.2", "1.2.3", "1.2.3.", "1.2.3.4.", ".1.2.3.4", ".1", "1.", "1..2.3", "1.2.3.4.5", "256.0.0.1", "0.256.0.0", "0.0.256.0", "0.0.0.256", "1.2.3.999", "1.2.3.04", "01.2.3.4", "00.0.0.0", "1.2.3.+4", "1.2.3.4 ", " 1.2.3.4",
	"a.1", "a.b.0", "a.00", "example.org.1", "localhost.1", "a.1.2.3.4", "a.b.c.1", "1.2.b.4", "-.1", "_.1", "\xff.1", "[.1", "a..1",
	a100 + "a", dots100 + "d", "x" + local100, strings.Repeat("a", 200), strings.Repeat("1", 100), strings.Repeat("1", 101), strings.Repeat("a", 98) + ".1", strings.Repeat("a.", 50),
	"[", "]", "[]", "][", "[[", "]]", "[[]]", "[a]", "[a.org]", "[localhost]", "[1]", "[1.2.3.4]", "[127.0.0.1]", "[::1.2.3.4]", "[:]", "[:::]", "[::1", "::1]", "::1", "::", "[::1]x", "x[::1]", "[::1]:80", "[::1].", "[::1]]", "[[::1]", "[[::1]]", "[::1] ", " [::1]", "[ ::1]", "[::1 ]", "[]::1", "[::]1", "a[", "[a", "a]", "]a", "[1", "1]", "[.]", "[::1%1]", "[::%25]", "[fe80::1%25eth0]", "[1:2:3:4:5:6:7]", "[1:2:3:4:5:6:7:8:9]", "[::12345]", "[::g]", "[1::2::3]", "[::1/64]", "(::1)", "[v1.a]",
}

// P7.1: of each kind, at the edges that the chapter names.
func TestMayOfDomains(t *testing.T) {
	for _, s := range names {
		checkMay(t, domain(s), true)
	}
	for _, s := range noNames {
		checkMay(t, domain(s), false)
	}
	for _, s := range []string{"A", "Z", "EXAMPLE.org", "example.orG", "a.B", "x-Y", "Localhost", "X.localhost", strings.Repeat("a", 99) + "A", "A" + a100, "1.2.3.4", "0.0.0.0", "127.0.0.1", "255.255.255.255", "[::1]", "[::]"} {
		checkMay(t, domain(s), false)
	}
}

// P7.1: as many bytes as there may be, and one more.
func TestLengths(t *testing.T) {
	for n := range 120 {
		for _, c := range []string{"a", "Z", "-", "_", "1", "."} {
			s := strings.Repeat(c, n)
			checkHost(t, domain(s))
			checkHost(t, domain(s+"b"))
			checkHost(t, domain("b"+s))
			checkText(t, s)
			checkText(t, s+"b")
			checkText(t, "b"+s)
			if _, is := host.Parse(s + "b"); c == "Z" && is != (n+1 <= 100) {
				t.Errorf("a name of %d bytes is parsed: %v", n+1, is)
			}
		}
	}
}

// P7.1: each byte, alone, and at each place among others.
func TestEachByte(t *testing.T) {
	for n := range 256 {
		c := string([]byte{byte(n)})
		small := n >= 'a' && n <= 'z' || c == "-" || c == "_"
		capital := n >= 'A' && n <= 'Z'
		digit := n >= '0' && n <= '9'
		checkMay(t, domain(c), small)
		checkMay(t, domain("a"+c+"a"), small || digit || c == ".")
		checkMay(t, domain(c+"a"), small || digit)
		checkMay(t, domain("a"+c), small || digit)
		checkMay(t, domain("a.b"+c+".d"), small || digit)
		checkMay(t, domain("a."+c), small)
		checkMay(t, domain("1"+c), small)
		for _, s := range []string{c, "a" + c + "a", c + "a", "a" + c, "a." + c, "1" + c} {
			if _, is := host.Parse(s); is != (host.May(domain(s)) || capital) {
				t.Errorf("Parse(%q) is %v", s, is)
			}
			checkText(t, s)
		}
	}
}

var (
	fours = []int{0, 1, 2, 126, 127, 128, 255, 256, 65535, 65536, 16777215, 16777216, 16777217, 127<<24 - 1, 127 << 24, own - 1, own, own + 1, 128<<24 - 1, 128 << 24, math.MaxInt32, math.MaxInt32 + 1, 192<<24 | 168<<16 | 1, 4294967294, mostFour}

	noFours = []int{-1, -2, -127, -own, -4294967295, -4294967296, math.MinInt32, math.MinInt, math.MinInt + own, 4294967296, 4294967297, 1<<32 + own, 1<<33 + own, 1 << 40, 1 << 62, math.MaxInt, math.MaxInt - 1}
)

// P7.1, P7.3: numbers at the edges.
func TestFours(t *testing.T) {
	for _, n := range fours {
		checkMay(t, fourOf(n), true)
	}
	for _, n := range noFours {
		checkMay(t, fourOf(n), false)
	}
	for n := range 256 {
		for _, low := range []int{0, 1, 16777215} {
			h := fourOf(n<<24 | low)
			checkMay(t, h, true)
			if got := host.Local(h); got != (n == 127) {
				t.Errorf("Local(%v) = %v", h, got)
			}
		}
	}
}

var noPieces = []int{-1, -65535, -65536, math.MinInt, 65536, 65537, 131072, 1 << 32, 1<<32 + 1, math.MaxInt}

// P7.1, P7.3: pieces at the edges, at each place.
func TestSixes(t *testing.T) {
	for _, rest := range []int{0, 1, mostSix} {
		var p [8]int
		for i := range p {
			p[i] = rest
		}
		checkMay(t, sixOf(p), true)
		for i := range p {
			for _, n := range []int{0, 1, 2, 15, 16, 255, 256, 4096, 32768, 65534, 65535} {
				q := p
				q[i] = n
				checkMay(t, sixOf(q), true)
			}
			for _, n := range noPieces {
				q := p
				q[i] = n
				checkMay(t, sixOf(q), false)
			}
		}
	}
	for bits := range 256 {
		p := [8]int{0xa, 0xbc, 3, 0xd04, 5, 0x6e, 7, 1}
		for i := range p {
			if bits>>i&1 == 1 {
				p[i] = 0
			}
		}
		checkMay(t, sixOf(p), true)
	}
}

// P7.1: kinds that are none.
func TestKinds(t *testing.T) {
	whole := api.Host{Name: "localhost", Num: own, Six: [8]int{7: 1}}
	for _, kind := range []int{api.HoNone, api.HoKinds, api.HoKinds + 1, -1, -2, -3, 5, 6, 7, 8, 16, 256, 257, 1<<32 + 1, 1<<32 + 2, 1<<32 + 3, math.MaxInt, math.MinInt, math.MinInt + 1} {
		for _, h := range []api.Host{{}, domain("localhost"), domain("a"), fourOf(own), fourOf(1), sixOf([8]int{7: 1}), sixOf([8]int{1}), whole} {
			h.Kind = kind
			checkMay(t, h, false)
			if s := host.Show(h); s != "" || host.Local(h) {
				t.Errorf("%v is shown as %q, local %v", h, s, host.Local(h))
			}
		}
	}
}

// P7.1: of each kind, each other part that is not zero.
func TestAllElse(t *testing.T) {
	for _, h := range []api.Host{domain("localhost"), domain("a"), domain(""), domain("1.2.3.4"), fourOf(own), fourOf(0), fourOf(-1), sixOf([8]int{7: 1}), sixOf([8]int{}), sixOf([8]int{65536})} {
		checkHost(t, h)
		for _, name := range []string{"a", "localhost", "127.0.0.1", "[::1]", ".", " ", "\x00", a100 + "a"} {
			x := h
			x.Name = name
			checkMay(t, x, h.Kind == api.HoDomain && wantName(name))
		}
		for _, n := range []int{1, -1, own, mostFour, mostFour + 1, math.MinInt} {
			x := h
			x.Num = n
			checkMay(t, x, h.Kind == api.HoFour && n > 0 && n <= mostFour)
		}
		for i := range 8 {
			for _, n := range []int{1, -1, mostSix, mostSix + 1, math.MinInt} {
				x := h
				x.Six[i] = n
				checkMay(t, x, h.Kind == api.HoSix && wantMay(x))
			}
		}
	}
}

// P7.1: a kind with another one's part.
func TestWrongKinds(t *testing.T) {
	for _, kind := range []int{api.HoDomain, api.HoFour, api.HoSix} {
		for _, h := range []api.Host{{}, domain("localhost"), fourOf(own), fourOf(0), sixOf([8]int{7: 1}), sixOf([8]int{})} {
			x := h
			x.Kind = kind
			// A host without any part is one of the number 0, and one of eight noughts.
			empty := h.Name == "" && h.Num == 0 && h.Six == [8]int{} && kind != api.HoDomain
			checkMay(t, x, kind == h.Kind || empty)
		}
	}
}

// P7.2
func TestParse(t *testing.T) {
	for s, want := range map[string]api.Host{
		"EXAMPLE.org": domain("example.org"), "Example.ORG": domain("example.org"), "A": domain("a"), "Z.Z": domain("z.z"), "A-B_C": domain("a-b_c"), "1A.2B": domain("1a.2b"), "LOCALHOST": domain("localhost"), "X.LocalHost": domain("x.localhost"), "1.2.3.4A": domain("1.2.3.4a"), "0X7F": domain("0x7f"),
		upper(a100): domain(a100), upper(dots100): domain(dots100), upper(local100): domain(local100),
		"0.0.0.0": fourOf(0), "0.0.0.1": fourOf(1), "1.2.3.4": fourOf(16909060), "127.0.0.1": fourOf(own), "127.255.255.255": fourOf(128<<24 - 1), "255.255.255.255": fourOf(mostFour), "10.20.30.40": fourOf(169090600), "192.168.0.1": fourOf(3232235521),
		"[::]": sixOf([8]int{}), "[::1]": sixOf([8]int{7: 1}), "[0:0::1]": sixOf([8]int{7: 1}), "[0:0::F]": sixOf([8]int{7: 15}), "[0000:0000:0000:0000:0000:0000:0000:0001]": sixOf([8]int{7: 1}), "[1:2:3:4:5:6:7:8]": sixOf([8]int{1, 2, 3, 4, 5, 6, 7, 8}), "[1::]": sixOf([8]int{1}), "[ABCD::ef01]": sixOf([8]int{0: 0xabcd, 7: 0xef01}), "[FFFF:ffff:FFFF:ffff:FFFF:ffff:FFFF:ffff]": sixOf([8]int{65535, 65535, 65535, 65535, 65535, 65535, 65535, 65535}), "[1:2:3:4:5:6:7::]": sixOf([8]int{1, 2, 3, 4, 5, 6, 7, 0}),
	} {
		checkParse(t, s, want, true)
		checkText(t, s)
	}
	for _, s := range names {
		checkParse(t, s, domain(s), true)
		checkParse(t, upper(s), domain(s), true)
		checkText(t, s)
	}
	for _, s := range noNames {
		checkNone(t, s)
		checkNone(t, upper(s))
		checkText(t, s)
	}
}

// P7.2: none to six parts, each at the edges of a byte, with what is no number among them.
func TestParts(t *testing.T) {
	for _, part := range []string{"0", "1", "9", "10", "99", "100", "254", "255", "256", "257", "300", "999", "1000", "00", "01", "001", "0255", "", "a", "1a", "-1", "+1", " 1", "1 ", "0x1", "\xff", "18446744073709551617", "[", "]"} {
		for count := range 7 {
			for place := range count {
				parts := make([]string, count)
				for i := range parts {
					parts[i] = strconv.Itoa(i + 1)
				}
				parts[place] = part
				checkText(t, strings.Join(parts, "."))
				checkText(t, "."+strings.Join(parts, "."))
				checkText(t, strings.Join(parts, ".")+".")
				checkText(t, "["+strings.Join(parts, ".")+"]")
			}
		}
	}
}

// P7.2: each byte put in or put at the place of another one, everywhere in a text, and each byte taken out.
func TestOneByteElse(t *testing.T) {
	for _, s := range []string{"a", "A.b", "EXAMPLE.org", "x.LOCALHOST", "1.2.3.4", "127.0.0.1", "255.255.255.255", "[::]", "[::1]", "[0:0::F]", "[1:2:3:4:5:6:7:8]", strings.Repeat("Ab.", 33), strings.Repeat("a", 99), a100} {
		for n := range 256 {
			c := string([]byte{byte(n)})
			for i := range len(s) + 1 {
				checkText(t, s[:i]+c+s[i:])
				if i < len(s) {
					checkText(t, s[:i]+c+s[i+1:])
				}
			}
		}
		for i := range len(s) {
			checkText(t, s[:i]+s[i+1:])
			checkText(t, s[:i])
			checkText(t, s[i:])
		}
	}
}

// P7.1 to P7.4: all texts of up to five of a few bytes, parsed, and as domains' names.
func TestTexts(t *testing.T) {
	list := []string{""}
	for range 5 {
		var next []string
		for _, s := range list {
			for _, c := range []string{"a", "B", "1", ".", ":", "[", "]", "-"} {
				next = append(next, s+c)
				checkText(t, s+c)
				checkHost(t, domain(s+c))
			}
		}
		list = next
	}
}

// P7.3
func TestShow(t *testing.T) {
	for _, x := range []struct {
		h    api.Host
		want string
	}{
		{domain("example.org"), "example.org"},
		{domain("-"), "-"},
		{domain(a100), a100},
		{fourOf(0), "0.0.0.0"},
		{fourOf(own), "127.0.0.1"},
		{fourOf(16909060), "1.2.3.4"},
		{fourOf(mostFour), "255.255.255.255"},
		{sixOf([8]int{}), "[::]"},
		{sixOf([8]int{7: 1}), "[::1]"},
		{sixOf([8]int{1, 0, 0, 2, 0, 0, 0, 3}), "[1:0:0:2::3]"},
		{sixOf([8]int{65535, 65535, 65535, 65535, 65535, 65535, 65535, 65535}), "[ffff:ffff:ffff:ffff:ffff:ffff:ffff:ffff]"},
		{sixOf([8]int{5: 65535, 6: 0x102, 7: 0x304}), "[::ffff:102:304]"},
		{api.Host{}, ""},
		{api.Host{Name: "a"}, ""},
		{api.Host{Kind: api.HoKinds, Name: "a"}, ""},
		{domain(""), ""},
		{domain("A"), ""},
		{domain("a."), ""},
		{domain("1.2.3.4"), ""},
		{domain("[::1]"), ""},
		{domain(a100 + "a"), ""},
		{api.Host{Kind: api.HoDomain, Name: "a", Num: 1}, ""},
		{api.Host{Kind: api.HoDomain, Name: "a", Six: [8]int{7: 1}}, ""},
		{fourOf(-1), ""},
		{fourOf(mostFour + 1), ""},
		{api.Host{Kind: api.HoFour, Num: own, Name: "a"}, ""},
		{api.Host{Kind: api.HoFour, Num: own, Six: [8]int{7: 1}}, ""},
		{sixOf([8]int{-1}), ""},
		{sixOf([8]int{7: 65536}), ""},
		{api.Host{Kind: api.HoSix, Six: [8]int{7: 1}, Name: "a"}, ""},
		{api.Host{Kind: api.HoSix, Six: [8]int{7: 1}, Num: 1}, ""},
	} {
		if got := host.Show(x.h); got != x.want {
			t.Errorf("Show(%v) = %q, want %q", x.h, got, x.want)
		}
		checkHost(t, x.h)
	}
}

// P7.3
func TestLocal(t *testing.T) {
	for _, h := range []api.Host{
		domain("localhost"), domain("x.localhost"), domain("a.b.localhost"), domain("localhost.localhost"), domain("-.localhost"), domain("_.localhost"), domain("1.localhost"), domain("127.0.0.1.localhost"), domain(local100),
		fourOf(own), fourOf(127 << 24), fourOf(128<<24 - 1), fourOf(own + 255), sixOf([8]int{7: 1}),
	} {
		if !host.Local(h) {
			t.Errorf("Local(%v) = false", h)
		}
		checkHost(t, h)
	}
	for _, h := range []api.Host{
		domain("xlocalhost"), domain("x-localhost"), domain("x_localhost"), domain("x.ylocalhost"), domain("x.-localhost"), domain("localhos"), domain("localhostx"), domain("localhost.org"), domain("localhost.x"), domain("ocalhost"), domain("x.localhosts"), domain("local.host"), domain("x.local.host"), domain("a"), domain("localhost-"), domain(strings.Repeat("x", 91) + "localhost"),
		domain(".localhost"), domain("localhost."), domain("x..localhost"), domain("x.localhost."), domain("LOCALHOST"), domain("X.localhost"), domain("x.Localhost"), domain(" localhost"), domain("x/.localhost"), domain("x" + local100), domain(""), domain("127.0.0.1"), domain("[::1]"),
		fourOf(0), fourOf(1), fourOf(127), fourOf(127<<24 - 1), fourOf(128 << 24), fourOf(mostFour), fourOf(1<<32 + own), fourOf(-own), fourOf(10 << 24), fourOf(192<<24 | 168<<16),
		sixOf([8]int{}), sixOf([8]int{7: 2}), sixOf([8]int{7: -1}), sixOf([8]int{7: 65537}), sixOf([8]int{6: 1}), sixOf([8]int{0: 1}), sixOf([8]int{6: 1, 7: 1}), sixOf([8]int{0: 1, 7: 1}), sixOf([8]int{0: 65536, 7: 1}), sixOf([8]int{5: 65535, 6: 127 << 8, 7: 1}), sixOf([8]int{6: 127 << 8, 7: 1}), sixOf([8]int{0: 0xfe80, 7: 1}), sixOf([8]int{1, 1, 1, 1, 1, 1, 1, 1}),
		{}, {Name: "localhost"}, {Num: own}, {Six: [8]int{7: 1}},
		{Kind: api.HoKinds, Name: "localhost"}, {Kind: -1, Num: own},
		{Kind: api.HoFour, Name: "localhost"}, {Kind: api.HoSix, Name: "localhost"}, {Kind: api.HoDomain, Num: own}, {Kind: api.HoSix, Num: own}, {Kind: api.HoDomain, Six: [8]int{7: 1}}, {Kind: api.HoFour, Six: [8]int{7: 1}},
		{Kind: api.HoDomain, Name: "localhost", Num: 1}, {Kind: api.HoDomain, Name: "localhost", Six: [8]int{1}}, {Kind: api.HoFour, Num: own, Name: "a"}, {Kind: api.HoFour, Num: own, Six: [8]int{7: 1}}, {Kind: api.HoSix, Six: [8]int{7: 1}, Num: 1}, {Kind: api.HoSix, Six: [8]int{7: 1}, Name: "a"},
	} {
		if host.Local(h) {
			t.Errorf("Local(%v) = true", h)
		}
		checkHost(t, h)
	}
}

// P7.3: seven noughts and 1, with another number at each place.
func TestLocalPieces(t *testing.T) {
	for i := range 8 {
		for n := range 300 {
			p := [8]int{7: 1}
			p[i] = n
			h := sixOf(p)
			if got := host.Local(h); got != (p == [8]int{0, 0, 0, 0, 0, 0, 0, 1}) {
				t.Errorf("Local(%v) = %v", h, got)
			}
			checkHost(t, h)
		}
	}
}

// P1: long texts are worked off.
func TestLongTexts(t *testing.T) {
	const n = 1 << 20
	for _, c := range []string{"a", "A", "1", ".", "a.", ".a", "1.", ".1", "[", "]", ":", "-", "\xff", "[]", "%"} {
		s := strings.Repeat(c, n)
		for _, s := range []string{s, s + "a", s + ".1", "a" + s, "[" + s + "]", "[::" + s + "]", "[" + s + "::]", "1.2.3." + s, s + ".localhost"} {
			checkNone(t, s)
			h := domain(s)
			if host.May(h) || host.Show(h) != "" || host.Local(h) {
				t.Errorf("a name of %d bytes may be", len(s))
			}
		}
	}
}

// R3: what is handed in stays, and what is answered is the caller's own.
func TestOwn(t *testing.T) {
	h := api.Host{Kind: api.HoSix, Name: "", Six: [8]int{1, 0, 0, 65535, 2, 0, 0, 8}}
	before := h
	host.May(h)
	host.Show(h)
	host.Local(h)
	if h != before {
		t.Errorf("the host became %v", h)
	}
	got, _ := host.Parse("[1::8]")
	got.Six[0] = 9
	checkParse(t, "[1::8]", sixOf([8]int{0: 1, 7: 8}), true)
}

// R5: what was asked before changes nothing.
func TestAskedAgain(t *testing.T) {
	for range 3 {
		checkText(t, "EXAMPLE.org")
		checkText(t, "127.0.0.1")
		checkText(t, "[::1]")
		checkNone(t, "")
		checkNone(t, "1.2.3")
		checkHost(t, domain("localhost"))
		checkHost(t, fourOf(-1))
		checkHost(t, api.Host{})
		checkHost(t, sixOf([8]int{7: 1}))
	}
}

// FuzzHosts holds the promises against any text and host: its seeds run with the other tests.
func FuzzHosts(f *testing.F) {
	for _, s := range names {
		f.Add(s, 1, s, 0, 0, 0)
	}
	for _, s := range noNames {
		f.Add(s, 3, s, 0, 0, 1)
	}
	for _, n := range append(fours, noFours...) {
		f.Add("[1:2::8]", 2, "", n, 0, n)
	}
	f.Fuzz(func(t *testing.T, s string, kind int, name string, n, first, last int) {
		checkText(t, s)
		checkText(t, "["+s+"]")
		checkText(t, "1.2.3."+s)
		checkText(t, s+".localhost")
		p := [8]int{0: first, 7: last}
		checkHost(t, api.Host{Kind: kind, Name: name, Num: n, Six: p})
		checkHost(t, domain(name))
		checkHost(t, domain(s))
		checkHost(t, fourOf(n))
		checkHost(t, fourOf(n&mostFour))
		checkHost(t, sixOf(p))
		checkHost(t, sixOf([8]int{0: first & mostSix, 7: last & mostSix}))
	})
}

package six_test

import (
	"encoding/binary"
	"math"
	"net/netip"
	"strconv"
	"strings"
	"testing"

	"postmark/six"
)

const most = 65535

// others are numbers that are no piece.
var others = []int{
	-1, -2, -65535, -65536, -65537, math.MinInt32, math.MinInt, math.MinInt + 1,
	65536, 65537, 131071, 131072, 1 << 20, 1 << 32, 1<<32 + 1, 1 << 40, math.MaxInt32, math.MaxInt, math.MaxInt - 65535,
}

func wantMay(p [8]int) bool {
	for _, n := range p {
		if n < 0 || n > most {
			return false
		}
	}
	return true
}

// wantRun is P6.1 by trying all rows, the longest and the first ones first.
func wantRun(p [8]int) (int, int) {
	for n := 8; n >= 2; n-- {
		for at := 0; at+n <= 8; at++ {
			noughts := true
			for _, piece := range p[at : at+n] {
				noughts = noughts && piece == 0
			}
			if noughts {
				return at, n
			}
		}
	}
	return 0, 0
}

// wantShow is P6.2 by the library's own addresses.
func wantShow(p [8]int) string {
	if !wantMay(p) {
		return ""
	}
	var b [16]byte
	for i, n := range p {
		binary.BigEndian.PutUint16(b[2*i:], uint16(n))
	}
	a := netip.AddrFrom16(b)
	// The library shows the last two pieces of these with dots.
	if a.Is4In6() {
		return "::ffff:" + strconv.FormatInt(int64(p[6]), 16) + ":" + strconv.FormatInt(int64(p[7]), 16)
	}
	return a.String()
}

// wantParse is P6.3 by the library's own addresses, without its zones and its dots.
func wantParse(s string) ([8]int, bool) {
	var p [8]int
	a, err := netip.ParseAddr(s)
	if err != nil || !a.Is6() || strings.ContainsAny(s, "%.") {
		return p, false
	}
	b := a.As16()
	for i := range p {
		p[i] = int(binary.BigEndian.Uint16(b[2*i:]))
	}
	return p, true
}

func checkParse(t *testing.T, s string, want [8]int, wantIs bool) {
	t.Helper()
	if p, is := six.Parse(s); p != want || is != wantIs {
		t.Errorf("Parse(%.80q) = %x, %v, want %x, %v", s, p, is, want, wantIs)
	}
}

func checkNone(t *testing.T, s string) {
	t.Helper()
	checkParse(t, s, [8]int{}, false)
}

func checkText(t *testing.T, s string) {
	t.Helper()
	want, wantIs := wantParse(s)
	checkParse(t, s, want, wantIs)
	checkParsed(t, s)
}

// checkParsed is P6.4 of texts.
func checkParsed(t *testing.T, s string) {
	t.Helper()
	p, is := six.Parse(s)
	if !is {
		return
	}
	if !six.May(p) {
		t.Errorf("%q is parsed as %x, which may not be", s, p)
	}
	shown := six.Show(p)
	if shown == "" || len(shown) > len(s)+1 {
		t.Errorf("%q is parsed as %x, and shown as %q", s, p, shown)
	}
	if again, is := six.Parse(shown); !is || again != p {
		t.Errorf("%q is shown as %q, and parsed as %x, want %x", s, shown, again, p)
	}
}

// checkPieces is P6.1, P6.2, and P6.4 of pieces.
func checkPieces(t *testing.T, p [8]int) {
	t.Helper()
	may := wantMay(p)
	if got := six.May(p); got != may {
		t.Errorf("May(%x) = %v", p, got)
	}
	at, n := six.Run(p)
	if wantAt, wantN := wantRun(p); at != wantAt || n != wantN {
		t.Errorf("Run(%x) = %d, %d, want %d, %d", p, at, n, wantAt, wantN)
	}
	s := six.Show(p)
	if want := wantShow(p); s != want {
		t.Errorf("Show(%x) = %q, want %q", p, s, want)
	}
	if may {
		checkParse(t, s, p, true)
	} else {
		checkNone(t, s)
	}
}

// noughtsAt has pieces of 0 at the places of bits, and the given ones elsewhere.
func noughtsAt(bits int, p [8]int) [8]int {
	for i := range p {
		if bits>>i&1 == 1 {
			p[i] = 0
		}
	}
	return p
}

// The chapter's section "Examples".
func TestExamples(t *testing.T) {
	if got := six.Show([8]int{1, 0, 0, 2, 0, 0, 0, 3}); got != "1:0:0:2::3" {
		t.Errorf("1:0:0:2:0:0:0:3 is shown as %q", got)
	}
	checkParse(t, "1:0:0:2:0:0:0:3", [8]int{1, 0, 0, 2, 0, 0, 0, 3}, true)
	checkParse(t, "1:0:0:2::3", [8]int{1, 0, 0, 2, 0, 0, 0, 3}, true)
	checkParse(t, "::", [8]int{}, true)
	if got := six.Show([8]int{}); got != "::" {
		t.Errorf("eight noughts are shown as %q", got)
	}
}

// P6.1: each place at both edges, and beyond them.
func TestMay(t *testing.T) {
	for _, rest := range []int{0, 1, most} {
		var p [8]int
		for i := range p {
			p[i] = rest
		}
		if !six.May(p) {
			t.Errorf("May(%x) = false", p)
		}
		for i := range p {
			for _, n := range []int{0, 1, 255, 256, 32767, 32768, 65534, 65535} {
				q := p
				q[i] = n
				if !six.May(q) {
					t.Errorf("May(%x) = false", q)
				}
			}
			for _, n := range others {
				q := p
				q[i] = n
				if six.May(q) {
					t.Errorf("May(%x) = true", q)
				}
			}
		}
	}
}

// P6.2: pieces that may not be are not shown; P6.1: their rows are found all the same.
func TestOthers(t *testing.T) {
	for _, rest := range []int{0, 1, most} {
		for i := range 8 {
			for _, n := range others {
				var p [8]int
				for j := range p {
					p[j] = rest
				}
				p[i] = n
				if got := six.Show(p); got != "" {
					t.Errorf("Show(%x) = %q, want nothing", p, got)
				}
				checkPieces(t, p)
			}
		}
	}
}

// P6.1
func TestRun(t *testing.T) {
	for _, x := range []struct {
		p     [8]int
		at, n int
	}{
		{[8]int{1, 2, 3, 4, 5, 6, 7, 8}, 0, 0},
		{[8]int{0, 2, 3, 4, 5, 6, 7, 8}, 0, 0},
		{[8]int{1, 2, 3, 0, 5, 6, 7, 8}, 0, 0},
		{[8]int{1, 2, 3, 4, 5, 6, 7, 0}, 0, 0},
		{[8]int{0, 2, 0, 4, 0, 6, 0, 8}, 0, 0},
		{[8]int{1, 0, 3, 0, 5, 0, 7, 0}, 0, 0},
		{[8]int{0, 0, 3, 4, 5, 6, 7, 8}, 0, 2},
		{[8]int{1, 0, 0, 4, 5, 6, 7, 8}, 1, 2},
		{[8]int{1, 2, 3, 4, 5, 6, 0, 0}, 6, 2},
		{[8]int{0, 0, 0, 4, 5, 6, 7, 8}, 0, 3},
		{[8]int{1, 2, 3, 4, 5, 0, 0, 0}, 5, 3},
		{[8]int{0, 0, 0, 4, 0, 0, 7, 8}, 0, 3},
		{[8]int{0, 0, 3, 0, 0, 0, 7, 8}, 3, 3},
		{[8]int{1, 0, 0, 4, 0, 0, 0, 8}, 4, 3},
		{[8]int{1, 0, 0, 0, 5, 0, 0, 8}, 1, 3},
		{[8]int{0, 0, 0, 4, 5, 0, 0, 0}, 0, 3},
		{[8]int{1, 0, 0, 4, 0, 0, 7, 8}, 1, 2},
		{[8]int{1, 0, 0, 4, 5, 6, 0, 0}, 1, 2},
		{[8]int{0, 0, 1, 0, 0, 1, 0, 0}, 0, 2},
		{[8]int{0, 2, 0, 0, 5, 0, 0, 8}, 2, 2},
		{[8]int{0, 2, 3, 4, 5, 6, 0, 0}, 6, 2},
		{[8]int{1, 0, 0, 0, 0, 0, 0, 8}, 1, 6},
		{[8]int{0, 0, 0, 0, 0, 0, 0, 8}, 0, 7},
		{[8]int{1, 0, 0, 0, 0, 0, 0, 0}, 1, 7},
		{[8]int{}, 0, 8},
		{[8]int{-1, 0, 0, 65536, 0, 0, 0, 1 << 40}, 4, 3},
		{[8]int{65536, 65536, 65536, 65536, 65536, 65536, 65536, 65536}, 0, 0},
	} {
		if at, n := six.Run(x.p); at != x.at || n != x.n {
			t.Errorf("Run(%x) = %d, %d, want %d, %d", x.p, at, n, x.at, x.n)
		}
	}
}

// P6.2
func TestShow(t *testing.T) {
	for want, p := range map[string][8]int{
		"::":              {},
		"1:2:3:4:5:6:7:8": {1, 2, 3, 4, 5, 6, 7, 8},
		"0:2:3:4:5:6:7:8": {0, 2, 3, 4, 5, 6, 7, 8},
		"1:2:3:0:5:6:7:8": {1, 2, 3, 0, 5, 6, 7, 8},
		"1:2:3:4:5:6:7:0": {1, 2, 3, 4, 5, 6, 7, 0},
		"0:2:0:4:0:6:0:8": {0, 2, 0, 4, 0, 6, 0, 8},
		"::3:4:5:6:7:8":   {0, 0, 3, 4, 5, 6, 7, 8},
		"1::4:5:6:7:8":    {1, 0, 0, 4, 5, 6, 7, 8},
		"1:2:3::6:7:8":    {1, 2, 3, 0, 0, 6, 7, 8},
		"1:2:3:4:5:6::":   {1, 2, 3, 4, 5, 6, 0, 0},
		"::1":             {7: 1},
		"1::":             {0: 1},
		"1::8":            {1, 0, 0, 0, 0, 0, 0, 8},
		"1::4:0:0:7:8":    {1, 0, 0, 4, 0, 0, 7, 8},
		"1:0:0:4::8":      {1, 0, 0, 4, 0, 0, 0, 8},
		"1::5:0:0:8":      {1, 0, 0, 0, 5, 0, 0, 8},
		"::1:0:0:1:0:0":   {0, 0, 1, 0, 0, 1, 0, 0},
		"0:0:1::1:0":      {0, 0, 1, 0, 0, 0, 1, 0},
		"0:1::":           {0, 1, 0, 0, 0, 0, 0, 0},
		"::1:0":           {0, 0, 0, 0, 0, 0, 1, 0},
		"ffff:ffff:ffff:ffff:ffff:ffff:ffff:ffff": {65535, 65535, 65535, 65535, 65535, 65535, 65535, 65535},
		"2001:db8::ff00:42:8329":                  {0x2001, 0xdb8, 0, 0, 0, 0xff00, 0x42, 0x8329},
		"a:b:c:d:e:f:10:1f":                       {10, 11, 12, 13, 14, 15, 16, 31},
		"abcd:ef01:9:99:fff:100:1000:f00f":        {0xabcd, 0xef01, 9, 0x99, 0xfff, 0x100, 0x1000, 0xf00f},
		"::ffff:102:304":                          {5: 0xffff, 6: 0x102, 7: 0x304},
		"::ffff:0:0":                              {5: 0xffff},
	} {
		if got := six.Show(p); got != want {
			t.Errorf("Show(%x) = %q, want %q", p, got, want)
		}
		checkPieces(t, p)
	}
}

// P6.1, P6.2, P6.4: noughts at all sets of places, among pieces of all lengths.
func TestNoughts(t *testing.T) {
	for _, p := range [][8]int{
		{1, 2, 3, 4, 5, 6, 7, 8},
		{10, 11, 12, 13, 14, 15, 16, 17},
		{0xfff, 0x100, 0xabc, 0x10, 0xff, 0xf, 0x1000, 0xffff},
		{65535, 65535, 65535, 65535, 65535, 65535, 65535, 65535},
		{65536, -1, 65536, -1, 65536, -1, 65536, -1},
	} {
		for bits := range 256 {
			checkPieces(t, noughtsAt(bits, p))
		}
	}
}

// P6.1, P6.2, P6.4: each piece at some place.
func TestEachPiece(t *testing.T) {
	for n := range most + 1 {
		p := [8]int{1, 0, 0xab, 0, 0, 0xcdef, 7, 0}
		p[n%8] = n
		checkPieces(t, p)
	}
}

// P6.3: what tells none.
var noPieces = []string{
	"", ":", ":::", "::::", ":::::::", "::::::::", "0", "1", "ffff", "1:2", "1:2:3", "1:2:3:4", "1:2:3:4:5", "1:2:3:4:5:6", "1:2:3:4:5:6:7", "1:2:3:4:5:6:7:8:9", "0:0:0:0:0:0:0", "0:0:0:0:0:0:0:0:0", "1:2:3:4:5:6:7:8:9:a", "1:2:3:4:5:6:7:8:9:a:b:c:d:e:f:10",
	"::1:2:3:4:5:6:7:8", "1:2:3:4:5:6:7:8::", "1::2:3:4:5:6:7:8", "1:2:3:4::5:6:7:8", "1:2:3:4:5:6:7::8", "1:2:3:4:5:6:7:8::9", "1::2:3:4:5:6:7:8:9", "::1:2:3:4:5:6:7:8:9", "1:2:3:4:5:6:7:8:9::", "1:2:3:4:5:6:7:8::1:2:3:4:5:6:7:8", "1:2:3:4:5:6:7:8:9::1:2:3:4:5:6:7:8:9",
	"1::2::3", "::1::", "::1::2", "1::2::", "::::1", "1::::", "1::::2", "::1:2::3", "1:2::3:4::", "0::0::0",
	":::1", "1:::", "1:::2", "1:2:::3:4", ":1::", "::1:", "1::2:", ":1::2", ":1", "1:", ":1:", ":1:2:3:4:5:6:7:8", "1:2:3:4:5:6:7:8:", ":1:2:3:4:5:6:7:8:", ":1:2:3:4:5:6:7", "1:2:3:4:5:6:7:", ":2:3:4:5:6:7:8:9",
	"12345::", "::12345", "1::12345", "00001::", "::00000", "::0ffff", "::10000", "1:2:3:4:5:6:7:00008", "00001:2:3:4:5:6:7:8", "::fffff", "::123456789abcdef", "12345:2:3:4:5:6:7:8", "1:2:3:12345:5:6:7:8",
	"g::", "::g", "::G", "x::", "1:2:3:4:5:6:7:g", "1:2:3:g:5:6:7:8", "::0x1", "0x1::", "::1g", "::g1", "::+1", "::-1", "-1::", "+1::", "::-", "::1_0", "::1e+1",
	" ", " ::", ":: ", "1: :2", ": :", " :: ", "::1 ", " ::1", "1 ::", "::\t", "::\n", "::\x00", "\x00::", "::\xff", "::\xef\xbc\x91", "\xef\xbc\x9a\xef\xbc\x9a", "::\xd9\xa3", "1:2:3:4:5:6:7:8 ", " 1:2:3:4:5:6:7:8", "1:2:3:4: 5:6:7:8",
	"[::]", "[::1]", "[::1", "::1]", "::1%1", "::%", "fe80::1%eth0", "::1.2.3.4", "::ffff:1.2.3.4", "1:2:3:4:5:6:1.2.3.4", "1.2.3.4", "1.2.3.4::", "::1/64", "::/0", "::1,", "1;2;3;4;5;6;7;8", "1.2.3.4.5.6.7.8", "1 2 3 4 5 6 7 8", "::1:", "[::1]:80",
}

// P6.3
func TestParseOfWhatIsNone(t *testing.T) {
	for _, s := range noPieces {
		checkNone(t, s)
	}
}

// P6.3
func TestParse(t *testing.T) {
	for s, want := range map[string][8]int{
		"::":              {},
		"0::":             {},
		"::0":             {},
		"0::0":            {},
		"::0000":          {},
		"0:0:0:0:0:0:0:0": {},
		"0:0:0:0:0:0:0::": {},
		"::0:0:0:0:0:0:0": {},
		"0000:0000:0000:0000:0000:0000:0000:0000": {},
		"1:2:3:4:5:6:7:8":                         {1, 2, 3, 4, 5, 6, 7, 8},
		"0001:0002:0003:0004:0005:0006:0007:0008": {1, 2, 3, 4, 5, 6, 7, 8},
		"1:02:003:0004:5:06:007:0008":             {1, 2, 3, 4, 5, 6, 7, 8},
		"::1":                                     {7: 1},
		"::1:2":                                   {6: 1, 7: 2},
		"::2:3:4:5:6:7:8":                         {0, 2, 3, 4, 5, 6, 7, 8},
		"1::":                                     {0: 1},
		"1:2::":                                   {0: 1, 1: 2},
		"1:2:3:4:5:6:7::":                         {1, 2, 3, 4, 5, 6, 7, 0},
		"1::8":                                    {0: 1, 7: 8},
		"1::3:4:5:6:7:8":                          {1, 0, 3, 4, 5, 6, 7, 8},
		"1:2:3:4:5:6::8":                          {1, 2, 3, 4, 5, 6, 0, 8},
		"1:2:3::5:6:7:8":                          {1, 2, 3, 0, 5, 6, 7, 8},
		"1:2:3::6:7:8":                            {1, 2, 3, 0, 0, 6, 7, 8},
		"1:2::7:8":                                {1, 2, 0, 0, 0, 0, 7, 8},
		"1:0:0:2::3":                              {1, 0, 0, 2, 0, 0, 0, 3},
		"1::2:0:0:0:3":                            {1, 0, 0, 2, 0, 0, 0, 3},
		"A::F":                                    {0: 10, 7: 15},
		"aBcD::eF01":                              {0: 0xabcd, 7: 0xef01},
		"ABCD:EF:abcd:ef:0:9:FFFF:ffff":           {0xabcd, 0xef, 0xabcd, 0xef, 0, 9, 0xffff, 0xffff},
		"0001::00aB":                              {0: 1, 7: 171},
		"::10":                                    {7: 16},
		"::010":                                   {7: 16},
		"::99":                                    {7: 153},
		"::1000":                                  {7: 4096},
		"2001:db8::ff00:42:8329":                  {0x2001, 0xdb8, 0, 0, 0, 0xff00, 0x42, 0x8329},
		"FFFF:ffff:FFFF:ffff:FFFF:ffff:FFFF:ffff": {65535, 65535, 65535, 65535, 65535, 65535, 65535, 65535},
		"::ffff:102:304": {5: 0xffff, 6: 0x102, 7: 0x304},
	} {
		checkParse(t, s, want, true)
		checkText(t, s)
	}
}

// P6.3: up to ten pieces' texts, with one to four colons at each place among them, and none to three ahead and behind.
func TestColons(t *testing.T) {
	texts := strings.Split("a1 b2 c3 d4 e5 f6 17 28 39 4a", " ")
	for count := range len(texts) + 1 {
		for place := range count + 1 {
			for colons := range 5 {
				for ends := range 16 {
					checkText(t, colonsAt(texts[:count], place, colons, ends))
				}
			}
		}
	}
}

func colonsAt(texts []string, place, colons, ends int) string {
	s := strings.Repeat(":", ends%4)
	for i, text := range texts {
		switch {
		case i == place:
			s += strings.Repeat(":", colons)
		case i > 0:
			s += ":"
		}
		s += text
	}
	if place == len(texts) {
		s += strings.Repeat(":", colons)
	}
	return s + strings.Repeat(":", ends/4)
}

// P6.3: two colons are at each place among fewer than eight, and at no place among eight; never at two places.
func TestTwoColons(t *testing.T) {
	texts := strings.Split("1 2 3 4 5 6 7 8 9", " ")
	for count := range len(texts) + 1 {
		for place := range count + 1 {
			first, last := strings.Join(texts[:place], ":"), strings.Join(texts[place:count], ":")
			s := first + "::" + last
			if count >= 8 {
				checkNone(t, s)
				continue
			}
			var p [8]int
			for i := range count {
				if i < place {
					p[i] = i + 1
				} else {
					p[8-count+i] = i + 1
				}
			}
			checkParse(t, s, p, true)
			checkParsed(t, s)
			checkNone(t, "::"+s)
			checkNone(t, s+"::")
			checkNone(t, "1::"+s)
			checkNone(t, s+"::1")
		}
	}
}

// P6.3: a piece's text of none to six digits, at each place.
func TestDigits(t *testing.T) {
	for place := range 8 {
		for _, digit := range []string{"0", "9", "a", "F"} {
			for n := range 7 {
				texts := strings.Split("1 2 3 4 5 6 7 8", " ")
				texts[place] = strings.Repeat(digit, n)
				s := strings.Join(texts, ":")
				if _, is := six.Parse(s); n >= 1 && is != (n <= 4) {
					t.Errorf("Parse(%q) is %v", s, is)
				}
				checkText(t, s)
				checkText(t, "::"+texts[place])
				checkText(t, texts[place]+"::")
			}
		}
	}
}

// P6.3: each byte is a digit or none, whatever stands beside it.
func TestEachByte(t *testing.T) {
	for n := range 256 {
		c := string([]byte{byte(n)})
		value, err := strconv.ParseUint(c, 16, 8)
		if err == nil {
			checkParse(t, "::"+c, [8]int{7: int(value)}, true)
			checkParse(t, c+"::", [8]int{0: int(value)}, true)
			checkParse(t, "::1"+c+"2", [8]int{7: 0x102 + int(value)*16}, true)
		} else if c != ":" {
			checkNone(t, "::"+c)
			checkNone(t, c+"::")
			checkNone(t, "::1"+c+"2")
		}
	}
}

// P6.3: each byte put in or put at the place of another one, everywhere in a text.
func TestOneByteElse(t *testing.T) {
	for _, s := range []string{"::", "::1", "1::", "1:2:3:4:5:6:7:8", "1:2::7:8", "2001:db8::ff00:42:8329", "1:2:3:4:5:6:7::", "ABCD:EF01:2345:6789:abcd:ef01:2345:6789"} {
		for n := range 256 {
			c := string([]byte{byte(n)})
			for i := range len(s) + 1 {
				checkText(t, s[:i]+c+s[i:])
				if i < len(s) {
					checkText(t, s[:i]+c+s[i+1:])
				}
			}
		}
		for i := range len(s) {
			checkText(t, s[:i]+s[i+1:])
			checkText(t, s[:i])
			checkText(t, s[i:])
		}
	}
}

// P6.3, P6.4: all texts of up to nine of a few bytes.
func TestTexts(t *testing.T) {
	list := []string{""}
	for range 9 {
		var next []string
		for _, s := range list {
			for _, c := range []string{":", "0", "B"} {
				next = append(next, s+c)
				checkText(t, s+c)
			}
		}
		list = next
	}
}

// P6.3, P6.4: eight pieces' texts with noughts at all sets of places, and two colons for each row of them that may be so told.
func TestAllTexts(t *testing.T) {
	for bits := range 256 {
		p := noughtsAt(bits, [8]int{0xa, 0xbc, 3, 0xd04, 5, 0x6e, 7, 0xffff})
		var texts []string
		for _, n := range p {
			texts = append(texts, strconv.FormatInt(int64(n), 16))
		}
		checkParse(t, strings.Join(texts, ":"), p, true)
		checkParse(t, strings.ToUpper(strings.Join(texts, ":")), p, true)
		checkParsed(t, strings.Join(texts, ":"))
		for at := range 8 {
			for end := at + 1; end <= 8 && p[end-1] == 0; end++ {
				s := strings.Join(texts[:at], ":") + "::" + strings.Join(texts[end:], ":")
				checkParse(t, s, p, true)
				checkParsed(t, s)
			}
		}
	}
}

// P6.4: one byte more is needed where two colons tell one nought.
func TestOneByteMore(t *testing.T) {
	for s, want := range map[string]string{
		"1::3:4:5:6:7:8":  "1:0:3:4:5:6:7:8",
		"::2:3:4:5:6:7:8": "0:2:3:4:5:6:7:8",
		"1:2:3:4:5:6:7::": "1:2:3:4:5:6:7:0",
	} {
		p, is := six.Parse(s)
		if got := six.Show(p); !is || got != want {
			t.Errorf("%q is shown as %q, want %q", s, got, want)
		}
		checkParsed(t, s)
	}
}

// P1: long texts are worked off.
func TestLongTexts(t *testing.T) {
	const n = 1 << 20
	colons, ones, zeros := strings.Repeat(":", n), strings.Repeat("1", n), strings.Repeat("0", n)
	for _, s := range []string{colons, ones, zeros, "::" + ones, "::" + zeros + "1", zeros + "::", "1:2:3:4:5:6:7:" + zeros + "8", "::1" + colons, colons + "1::", strings.Repeat("1:", n) + "1", strings.Repeat("1:", n) + ":1", "::" + strings.Repeat("1:", n) + "1", strings.Repeat("::", n) + "1"} {
		checkNone(t, s)
	}
}

// R3: what is handed in stays, and what is answered is the caller's own.
func TestOwn(t *testing.T) {
	p := [8]int{1, 0, 0, -1, 65536, 0, 0, 8}
	six.May(p)
	six.Show(p)
	six.Run(p)
	if p != [8]int{1, 0, 0, -1, 65536, 0, 0, 8} {
		t.Errorf("the pieces became %x", p)
	}
	q, _ := six.Parse("1::8")
	q[0] = 9
	checkParse(t, "1::8", [8]int{0: 1, 7: 8}, true)
}

// R5: what was asked before changes nothing.
func TestAskedAgain(t *testing.T) {
	for range 3 {
		checkParse(t, "1::8", [8]int{0: 1, 7: 8}, true)
		checkNone(t, "1::8::")
		checkParse(t, "::", [8]int{}, true)
		checkPieces(t, [8]int{1, 0, 0, 2, 0, 0, 0, 3})
		checkPieces(t, [8]int{0: -1})
		checkPieces(t, [8]int{})
	}
}

// FuzzPieces holds the promises against any text and pieces: its seeds run with the other tests.
func FuzzPieces(f *testing.F) {
	for _, s := range noPieces {
		f.Add(s, 1, 0, 0, 2, 0, 0, 0, 3)
	}
	for _, n := range others {
		f.Add("1:2:3:4:5:6:7::", n, 0, 0, n, 0, 0, 0, n)
	}
	f.Fuzz(func(t *testing.T, s string, a, b, c, d, e, g, h, i int) {
		checkText(t, s)
		p := [8]int{a, b, c, d, e, g, h, i}
		checkPieces(t, p)
		for j := range p {
			p[j] &= most
		}
		checkPieces(t, p)
		for j := range p {
			p[j] &= 1
		}
		checkPieces(t, p)
	})
}

package four_test

import (
	"encoding/binary"
	"math"
	"net/netip"
	"strconv"
	"strings"
	"testing"

	"postmark/four"
)

const most = 1<<32 - 1

// numbers are some of 32 bits: at both ends, near each power of 2, and all with each byte at an edge.
func numbers() []int {
	list := []int{16909060, 67305985, 2130706433, 3735928559}
	for bit := range 33 {
		for d := -2; d <= 2; d++ {
			if n := 1<<bit + d; n >= 0 && n <= most {
				list = append(list, n)
			}
		}
	}
	edges := []int{0, 1, 9, 10, 46, 99, 100, 126, 127, 128, 199, 254, 255}
	for _, a := range edges {
		for _, b := range edges {
			for _, c := range edges {
				for _, d := range edges {
					list = append(list, ((a*256+b)*256+c)*256+d)
				}
			}
		}
	}
	return list
}

// others are numbers that are not of 32 bits.
var others = []int{
	-1, -2, -127, -255, -256, -16777216, -2130706433, -2147483648, -4294967295, -4294967296, -4294967297, math.MinInt, math.MinInt + 1,
	4294967296, 4294967297, 4294967296 + 2130706433, 2 * 4294967296, 1 << 40, 127 << 32, 127 << 56, 1<<62 + 2130706433, math.MaxInt, math.MaxInt - 1, math.MaxInt - 4294967295 + 2130706433,
}

// wantShow is P5.1 by the library's own addresses.
func wantShow(n int) string {
	if n < 0 || n > most {
		return ""
	}
	var b [4]byte
	binary.BigEndian.PutUint32(b[:], uint32(n))
	return netip.AddrFrom4(b).String()
}

// wantParse is P5.2 by the library's own addresses.
func wantParse(s string) (int, bool) {
	a, err := netip.ParseAddr(s)
	if err != nil || !a.Is4() {
		return 0, false
	}
	b := a.As4()
	return int(binary.BigEndian.Uint32(b[:])), true
}

// wantLooks is P5.3 by all parts of the text.
func wantLooks(s string) bool {
	parts := strings.Split(s, ".")
	last := parts[len(parts)-1]
	return last != "" && strings.Trim(last, "0123456789") == ""
}

func checkParse(t *testing.T, s string, want int, wantIs bool) {
	t.Helper()
	if n, is := four.Parse(s); n != want || is != wantIs {
		t.Errorf("Parse(%.80q) = %d, %v, want %d, %v", s, n, is, want, wantIs)
	}
}

func checkText(t *testing.T, s string) {
	t.Helper()
	want, wantIs := wantParse(s)
	checkParse(t, s, want, wantIs)
	if got, want := four.Looks(s), wantLooks(s); got != want {
		t.Errorf("Looks(%.80q) = %v, want %v", s, got, want)
	}
	if n, is := four.Parse(s); is && four.Show(n) != s {
		t.Errorf("%.80q is parsed as %d, and shown as %q", s, n, four.Show(n))
	}
}

func checkNumber(t *testing.T, n int) {
	t.Helper()
	if got, want := four.Show(n), wantShow(n); got != want {
		t.Errorf("Show(%d) = %q, want %q", n, got, want)
	}
	if got, want := four.Inner(n), n >= 2130706432 && n <= 2147483647; got != want {
		t.Errorf("Inner(%d) = %v, want %v", n, got, want)
	}
}

// checkFollows is P5.4.
func checkFollows(t *testing.T, n int) {
	t.Helper()
	s := four.Show(n)
	checkParse(t, s, n, true)
	if !four.Looks(s) {
		t.Errorf("%d is shown as %q, and does not look so", n, s)
	}
}

// The chapter's section "Examples".
func TestExamples(t *testing.T) {
	checkParse(t, "127.0.0.1", 2130706433, true)
	if got := four.Show(2130706433); got != "127.0.0.1" {
		t.Errorf("Show(2130706433) = %q", got)
	}
	checkParse(t, "1.2.3", 0, false)
	checkParse(t, "1.2.3.04", 0, false)
}

// P5.1
func TestShow(t *testing.T) {
	for n, want := range map[int]string{
		0:             "0.0.0.0",
		1:             "0.0.0.1",
		255:           "0.0.0.255",
		256:           "0.0.1.0",
		65535:         "0.0.255.255",
		65536:         "0.1.0.0",
		16777215:      "0.255.255.255",
		16777216:      "1.0.0.0",
		16909060:      "1.2.3.4",
		67305985:      "4.3.2.1",
		168496141:     "10.11.12.13",
		1684300900:    "100.100.100.100",
		2130706433:    "127.0.0.1",
		2147483647:    "127.255.255.255",
		2147483648:    "128.0.0.0",
		3232235777:    "192.168.1.1",
		3735928559:    "222.173.190.239",
		4278190080:    "255.0.0.0",
		4294967294:    "255.255.255.254",
		4294967295:    "255.255.255.255",
		4294967296:    "",
		4294967297:    "",
		-1:            "",
		-4294967295:   "",
		math.MaxInt64: "",
		math.MinInt64: "",
	} {
		if got := four.Show(n); got != want {
			t.Errorf("Show(%d) = %q, want %q", n, got, want)
		}
	}
}

// P5.1, P5.3, P5.4
func TestNumbers(t *testing.T) {
	for _, n := range numbers() {
		checkNumber(t, n)
		checkFollows(t, n)
	}
	// Far apart, with all bytes at all values.
	for n := 0; n <= most; n += 65521 * 3 {
		checkNumber(t, n)
		checkFollows(t, n)
	}
}

// P5.1, P5.4: each byte at each of the four places.
func TestEachByte(t *testing.T) {
	for c := range 256 {
		for i := range 4 {
			parts := []string{"1", "20", "0", "255"}
			parts[i] = strconv.Itoa(c)
			s := strings.Join(parts, ".")
			n, _ := wantParse(s)
			checkParse(t, s, n, true)
			if got := four.Show(n); got != s {
				t.Errorf("Show(%d) = %q, want %q", n, got, s)
			}
			checkFollows(t, n)
		}
	}
}

// P5.1, P5.3: numbers that are not of 32 bits.
func TestOthers(t *testing.T) {
	for _, n := range others {
		if got := four.Show(n); got != "" {
			t.Errorf("Show(%d) = %q, want nothing", n, got)
		}
		if four.Inner(n) {
			t.Errorf("Inner(%d) = true", n)
		}
	}
	// What has 127 at the byte's place, and bits beyond.
	for bit := 32; bit < 64; bit++ {
		n := 127<<24 | 1<<bit
		checkNumber(t, n)
		checkNumber(t, 1<<bit)
		checkNumber(t, -1<<bit)
	}
}

// P5.2: what is none.
var noNumbers = []string{
	"", " ", ".", "..", "...", "....", "0", "1", "255", "256", "2130706433", "4294967295", "a", "-1",
	"1.2", "1.2.3", "0.0.0", "1.2.3.4.5", "0.0.0.0.0", "1.2.3.4.5.6", "1.2.3.4.5.6.7.8",
	".1.2.3", "1..2.3", "1.2..3", "1.2.3.", ".1.2.3.4", "1..2.3.4", "1.2..3.4", "1.2.3..4", "1.2.3.4.", "1.2.3.4..", "..1.2", "1.2..", "1...2",
	"256.0.0.0", "0.256.0.0", "0.0.256.0", "0.0.0.256", "1.2.3.256", "1.2.3.260", "1.2.3.300", "1.2.3.999", "1.2.3.1000", "1.2.3.2550", "1.2.3.65536", "1.2.3.4294967296", "1.2.3.18446744073709551617", "1.2.3.99999999999999999999999",
	"01.2.3.4", "1.02.3.4", "1.2.03.4", "1.2.3.04", "00.0.0.0", "0.00.0.0", "0.0.00.0", "0.0.0.00", "1.2.3.000", "1.2.3.0255", "1.2.3.00000000000000000000000000000004", "1.2.3.008", "0300.0.0.1",
	"-1.2.3.4", "1.-2.3.4", "1.2.-3.4", "1.2.3.-1", "1.2.3.-0", "+1.2.3.4", "1.+2.3.4", "1.2.3.+4", "1.2.3.-", "-.2.3.4",
	"1.2.3.a", "a.2.3.4", "1.a.3.4", "1.2.a.4", "1.2.3.4a", "a1.2.3.4", "1.2.3.0x4", "0x1.2.3.4", "1.2.3.1e1", "1.2.3.1_0",
	" 1.2.3.4", "1.2.3.4 ", "1. 2.3.4", "1.2 .3.4", "1.2.3.\t4", "1.2.3.4\n", "1.2.3.4\x00", "\x001.2.3.4", "1.2.3.4\xff", "1.2.3.\xb2", "1.2.3.\xd9\xa3", "1\xe3\x80\x822\xe3\x80\x823\xe3\x80\x824",
	"1,2,3,4", "1:2:3:4", "1.2.3/4", "1.2.3.4/8", "1.2.3.4:80", "[1.2.3.4]", "1.2.3.4%1", "::1.2.3.4", "::", "1.2.3.4,",
}

// P5.2
func TestParseOfWhatIsNone(t *testing.T) {
	for _, s := range noNumbers {
		checkParse(t, s, 0, false)
	}
	for _, n := range others {
		checkParse(t, four.Show(n), 0, false)
	}
}

// P5.2
func TestParse(t *testing.T) {
	for s, want := range map[string]int{
		"0.0.0.0":         0,
		"0.0.0.1":         1,
		"0.0.1.0":         256,
		"0.1.0.0":         65536,
		"1.0.0.0":         16777216,
		"1.2.3.4":         16909060,
		"4.3.2.1":         67305985,
		"10.0.0.255":      167772415,
		"100.10.1.0":      1678377216,
		"192.168.1.1":     3232235777,
		"222.173.190.239": 3735928559,
		"255.0.0.0":       4278190080,
		"0.255.0.0":       16711680,
		"0.0.255.0":       65280,
		"0.0.0.255":       255,
		"255.255.255.255": 4294967295,
	} {
		checkParse(t, s, want, true)
	}
}

// P5.2: parts up to 255, and beyond, at each of the four places, with zeros ahead and without.
func TestParts(t *testing.T) {
	for c := range 1200 {
		for i := range 4 {
			for _, zeros := range []string{"", "0", "00"} {
				parts := []string{"7", "0", "255", "10"}
				parts[i] = zeros + strconv.Itoa(c)
				n, is := 0, zeros == "" && c <= 255
				if is {
					for j, b := range []int{7, 0, 255, 10} {
						if j == i {
							b = c
						}
						n = n*256 + b
					}
				}
				checkParse(t, strings.Join(parts, "."), n, is)
			}
		}
	}
}

// P5.2: how many parts, from one on.
func TestHowManyParts(t *testing.T) {
	for count := 1; count <= 12; count++ {
		s := strings.Repeat("1.", count-1) + "1"
		if count == 4 {
			checkParse(t, s, 16843009, true)
		} else {
			checkParse(t, s, 0, false)
		}
		checkParse(t, s+".", 0, false)
		checkParse(t, "."+s, 0, false)
	}
}

// P5.2: each byte put in or put at the place of another one, everywhere in a text.
func TestOneByteElse(t *testing.T) {
	for _, s := range []string{"1.2.3.4", "127.0.0.1", "255.255.255.255", "10.20.30.40"} {
		for n := range 256 {
			c := string([]byte{byte(n)})
			for i := range len(s) + 1 {
				checkText(t, s[:i]+c+s[i:])
				if i < len(s) {
					checkText(t, s[:i]+c+s[i+1:])
				}
			}
		}
		for i := range len(s) {
			checkText(t, s[:i]+s[i+1:])
			checkText(t, s[:i])
			checkText(t, s[i:])
		}
	}
}

// P5.3
func TestLooks(t *testing.T) {
	for s, want := range map[string]bool{
		"":                           false,
		"0":                          true,
		"1":                          true,
		"007":                        true,
		"a":                          false,
		"1a":                         false,
		"a1":                         false,
		"-1":                         false,
		"+1":                         false,
		" 1":                         false,
		"1 ":                         false,
		"0x1":                        false,
		"99999999999999999999999":    true,
		".":                          false,
		"..":                         false,
		"1.":                         false,
		"1.2.3.4.":                   false,
		".1":                         true,
		"..9":                        true,
		"a.1":                        true,
		"a.b.09":                     true,
		"a..0":                       true,
		"1.a":                        false,
		"1.2.3.a":                    false,
		"1.2.3.4a":                   false,
		"1.2.3.a4":                   false,
		"1.2.3.-4":                   false,
		"1.2.3.4 ":                   false,
		"1.2.3.4\x00":                false,
		"a.0x1":                      false,
		"1.2.3":                      true,
		"1.2.3.04":                   true,
		"1.2.3.4":                    true,
		"1.2.3.4.5":                  true,
		"1.2.3.256":                  true,
		"1.2.3.99999999999999999999": true,
		"example.org":                false,
		"example.org.1":              true,
		"\xff.1":                     true,
		"1.\xb2":                     false,
		"1.\xd9\xa3":                 false,
		"1\xe3\x80\x821":             false,
		"a:1":                        false,
		"a/1":                        false,
		"a.1:":                       false,
		"a.1/":                       false,
		"a.1,2":                      false,
	} {
		if got := four.Looks(s); got != want {
			t.Errorf("Looks(%q) = %v, want %v", s, got, want)
		}
	}
	for n := range 256 {
		c := string([]byte{byte(n)})
		for _, s := range []string{c, "a." + c, "1." + c, "1." + c + "1", "1.1" + c, c + ".1", c + "1", "1" + c, "1" + c + "1"} {
			if got, want := four.Looks(s), wantLooks(s); got != want {
				t.Errorf("Looks(%q) = %v, want %v", s, got, want)
			}
		}
	}
}

// P5.3
func TestInner(t *testing.T) {
	for n, want := range map[int]bool{
		0:             false,
		127:           false,
		32512:         false, // 127 at the other places
		8323072:       false,
		2113929216:    false,
		2130706431:    false,
		2130706432:    true,
		2130706433:    true,
		2139095040:    true,
		2147483646:    true,
		2147483647:    true,
		2147483648:    false,
		4278190080:    false,
		4294967295:    false,
		4294967296:    false,
		6425673728:    false, // 4294967296 more than the least one
		6442450943:    false,
		-1:            false,
		-2130706432:   false,
		-2130706433:   false,
		-2164260864:   false, // 4294967296 less than the least one
		-2147483649:   false,
		math.MaxInt64: false,
		math.MinInt64: false,
	} {
		if got := four.Inner(n); got != want {
			t.Errorf("Inner(%d) = %v, want %v", n, got, want)
		}
	}
	for c := range 256 {
		for _, rest := range []int{0, 1, 127, 8355711, 16777215} {
			if got, want := four.Inner(c<<24+rest), c == 127; got != want {
				t.Errorf("Inner(%d) = %v, want %v", c<<24+rest, got, want)
			}
		}
	}
}

// P5.2 to P5.4: all texts of up to seven of a few bytes.
func TestTexts(t *testing.T) {
	list := []string{""}
	for range 7 {
		var next []string
		for _, s := range list {
			for _, c := range []string{".", "0", "2", "-"} {
				next = append(next, s+c)
				checkText(t, s+c)
			}
		}
		list = next
	}
}

// P1: long texts are worked off.
func TestLongTexts(t *testing.T) {
	const n = 1 << 20
	dots, ones, zeros := strings.Repeat(".", n), strings.Repeat("1", n), strings.Repeat("0", n)
	for _, s := range []string{dots, ones, zeros, "1.2.3." + ones, "1.2.3." + zeros, "1.2.3." + zeros + "4", ones + ".2.3.4", "1.2.3.4" + dots, dots + "1.2.3.4", strings.Repeat("1.", n) + "1"} {
		checkParse(t, s, 0, false)
		if got, want := four.Looks(s), wantLooks(s); got != want {
			t.Errorf("Looks(%.20q) = %v, want %v", s, got, want)
		}
	}
}

// R5: what was asked before changes nothing.
func TestAskedAgain(t *testing.T) {
	for range 3 {
		checkParse(t, "1.2.3.4", 16909060, true)
		checkParse(t, "1.2.3.04", 0, false)
		checkParse(t, "4.3.2", 0, false)
		if four.Show(16909060) != "1.2.3.4" || four.Show(-1) != "" || !four.Looks("a.1") || four.Looks("1.") || !four.Inner(2130706433) || four.Inner(0) {
			t.Fatal("an answer changed")
		}
	}
}

// FuzzFours holds the promises against any text and number: its seeds run with the other tests.
func FuzzFours(f *testing.F) {
	for _, s := range noNumbers {
		f.Add(s, 2130706433)
	}
	for _, n := range others {
		f.Add("127.0.0.1", n)
	}
	f.Fuzz(func(t *testing.T, s string, n int) {
		checkText(t, s)
		checkNumber(t, n)
		checkFollows(t, n&most)
	})
}

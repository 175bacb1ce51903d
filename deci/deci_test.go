package deci_test

import (
	"math"
	"math/big"
	"strconv"
	"strings"
	"testing"

	"postmark/deci"
)

// numbers are some of all sizes: near 0, near each power of 10 and of 2, near what limits the document has, and at both ends of the ints.
func numbers() []int {
	list := []int{0, math.MaxInt, math.MaxInt - 1, math.MinInt, math.MinInt + 1}
	near := func(n int) {
		for d := -2; d <= 2; d++ {
			list = append(list, n+d, -n+d)
		}
	}
	for n := 1; n <= math.MaxInt/10; n *= 10 {
		near(n)
		near(n * 9)
	}
	for bit := range 62 {
		near(1 << bit)
	}
	for _, n := range []int{80, 127, 255, 443, 4096, 65535, 1234567890} {
		near(n)
	}
	return list
}

// edges are digits, the bytes beside them, and others that may be taken for digits or signs.
var edges = []byte{0, ' ', '+', '-', '.', '/', '0', '1', '8', '9', ':', 'a', 'e', 'x', '_', 127, 128, 176, 178, 185, 255}

// eachText calls f with the empty text, and with all texts of up to three of the edges.
func eachText(f func(string)) {
	f("")
	for _, a := range edges {
		f(string([]byte{a}))
		for _, b := range edges {
			f(string([]byte{a, b}))
			for _, c := range edges {
				f(string([]byte{a, b, c}))
			}
		}
	}
}

// wantRead is P2.2 by numbers of any size.
func wantRead(s string, most int) (int, bool) {
	if s == "" || strings.Trim(s, "0123456789") != "" {
		return 0, false
	}
	n, _ := new(big.Int).SetString(s, 10)
	if n.Cmp(big.NewInt(int64(most))) > 0 {
		return 0, false
	}
	return int(n.Int64()), true
}

func checkRead(t *testing.T, s string, most int) {
	t.Helper()
	want, wantIs := wantRead(s, most)
	if n, is := deci.Read(s, most); n != want || is != wantIs {
		t.Errorf("Read(%.80q, %d) = %d, %v, want %d, %v", s, most, n, is, want, wantIs)
	}
}

// P2.1
func TestPlain(t *testing.T) {
	for s, want := range map[string]bool{
		"":                      false,
		"0":                     true,
		"9":                     true,
		"00":                    true,
		"0129":                  true,
		"0123456789":            true,
		"9223372036854775808":   true,
		"-1":                    false,
		"+1":                    false,
		"-":                     false,
		" 1":                    false,
		"1 ":                    false,
		"1\n":                   false,
		"1\x00":                 false,
		"1.0":                   false,
		"1,000":                 false,
		"1_000":                 false,
		"0x1f":                  false,
		"1e3":                   false,
		"12a34":                 false,
		"\xb2":                  false,
		"1\xff":                 false,
		"\xd9\xa3":              false, // digits by Unicode alone
		"1\xef\xbc\x91":         false,
		strings.Repeat("5", 99): true,
	} {
		if got := deci.Plain(s); got != want {
			t.Errorf("Plain(%q) = %v, want %v", s, got, want)
		}
	}
}

// P2.1: each byte, alone, and at every place among digits.
func TestPlainOfEachByte(t *testing.T) {
	for n := range 256 {
		c := string([]byte{byte(n)})
		want := n >= 48 && n <= 57
		for _, s := range []string{c, c + "1", "1" + c, "1" + c + "1", c + c} {
			if got := deci.Plain(s); got != want {
				t.Errorf("Plain(%q) = %v, want %v", s, got, want)
			}
		}
	}
}

// P2.1
func TestShow(t *testing.T) {
	for n, want := range map[int]string{
		0:             "0",
		1:             "1",
		9:             "9",
		10:            "10",
		11:            "11",
		99:            "99",
		100:           "100",
		101:           "101",
		65535:         "65535",
		1000000:       "1000000",
		1234567890:    "1234567890",
		-1:            "-1",
		-9:            "-9",
		-10:           "-10",
		-120:          "-120",
		-1000001:      "-1000001",
		math.MaxInt64: "9223372036854775807",
		math.MinInt64: "-9223372036854775808",
	} {
		if got := deci.Show(n); got != want {
			t.Errorf("Show(%d) = %q, want %q", n, got, want)
		}
	}
}

// P2.1: by another way of showing, and by its words.
func TestShowOfNumbers(t *testing.T) {
	check := func(n int) {
		got := deci.Show(n)
		if want := strconv.Itoa(n); got != want {
			t.Errorf("Show(%d) = %q, want %q", n, got, want)
		}
		digits, below := strings.CutPrefix(got, "-")
		if below != (n < 0) || !deci.Plain(digits) || len(digits) > 1 && digits[0] == '0' {
			t.Errorf("Show(%d) = %q: a sign, a digit or a 0 ahead is wrong", n, got)
		}
	}
	for _, n := range numbers() {
		check(n)
	}
	for n := -12000; n <= 12000; n++ {
		check(n)
	}
}

// P2.2
func TestRead(t *testing.T) {
	const most = math.MaxInt64
	for _, x := range []struct {
		s       string
		most, n int
		is      bool
	}{
		{"0080", 65535, 80, true}, {"65536", 65535, 0, false}, {"65535", 65535, 65535, true},
		{"", 0, 0, false}, {"", most, 0, false}, {"", -1, 0, false},
		{"0", 0, 0, true}, {"000", 0, 0, true}, {"1", 0, 0, false}, {"01", 0, 0, false}, {"10", 0, 0, false},
		{"0", -1, 0, false}, {"5", -1, 0, false}, {"0", math.MinInt64, 0, false}, {"9", math.MinInt64, 0, false},
		{"0", most, 0, true}, {"7", 7, 7, true}, {"8", 7, 0, false}, {"9", 5, 0, false}, {"5", 9, 5, true},
		{"10", 9, 0, false}, {"10", 10, 10, true}, {"19", 18, 0, false}, {"20", 19, 0, false}, {"17", 21, 17, true},
		{"255", 255, 255, true}, {"256", 255, 0, false}, {"260", 255, 0, false}, {"2550", 255, 0, false},
		{"9223372036854775806", most, most - 1, true},
		{"9223372036854775807", most, most, true},
		{"9223372036854775807", most - 1, 0, false},
		{"9223372036854775808", most, 0, false},
		{"9223372036854775810", most, 0, false},
		{"9999999999999999999", most, 0, false},
		{"18446744073709551616", most, 0, false}, // 2 to the power of 64, and 1 more: 0 and 1, if they wrap round
		{"18446744073709551617", most, 0, false},
		{"18446744073709551617", 65535, 0, false},
		{"99999999999999999999999", most, 0, false},
		{"-1", 9, 0, false}, {"-0", 9, 0, false}, {"+1", 9, 0, false}, {"-1", -1, 0, false}, {"-5", -1, 0, false},
		{"1a", 99, 0, false}, {"a1", 99, 0, false}, {"1a1", 999, 0, false}, {" 1", 9, 0, false}, {"1 ", 9, 0, false},
		{"1/", 999, 0, false}, {"1:", 999, 0, false}, {"1.", 999, 0, false}, {"1_0", 99, 0, false}, {"0x1", 99, 0, false},
		{"1\x00", 99, 0, false}, {"\x80", most, 0, false}, {"1\xb2", most, 0, false}, {"\xd9\xa3", most, 0, false},
	} {
		if n, is := deci.Read(x.s, x.most); n != x.n || is != x.is {
			t.Errorf("Read(%q, %d) = %d, %v, want %d, %v", x.s, x.most, n, is, x.n, x.is)
		}
	}
}

// P2.2: the least and the greatest most, and all near the number.
func TestReadUpToMost(t *testing.T) {
	all := numbers()
	for _, n := range all {
		s := strconv.Itoa(n)
		for _, most := range all {
			checkRead(t, s, most)
		}
	}
	for n := range 300 {
		for most := -3; most < 300; most++ {
			checkRead(t, strconv.Itoa(n), most)
		}
	}
}

// P2.2: the digits that go beyond the greatest int, one by one.
func TestReadBeyondTheGreatestInt(t *testing.T) {
	greatest := strconv.Itoa(math.MaxInt)
	for i := range len(greatest) + 1 {
		for d := range 10 {
			digit := strconv.Itoa(d)
			checkRead(t, greatest[:i]+digit+greatest[i:], math.MaxInt)
			if i < len(greatest) {
				checkRead(t, greatest[:i]+digit+greatest[i+1:], math.MaxInt)
			}
		}
	}
	one := big.NewInt(1)
	for bit := range 300 {
		n := new(big.Int).Lsh(one, uint(bit))
		for _, most := range []int{-1, 0, 1, 255, 65535, math.MaxInt - 1, math.MaxInt} {
			checkRead(t, n.String(), most)
			checkRead(t, new(big.Int).Sub(n, one).String(), most)
			checkRead(t, new(big.Int).Add(n, one).String(), most)
		}
	}
}

// P2.2: wrong texts, whatever most is.
func TestReadOfTexts(t *testing.T) {
	eachText(func(s string) {
		for _, most := range []int{math.MinInt, -1, 0, 1, 9, 10, 99, 100, 188, 999, math.MaxInt} {
			checkRead(t, s, most)
		}
	})
}

// P2.2: a text is read if it is plain digits, and then alone.
func TestPlainIsWhatMayBeRead(t *testing.T) {
	eachText(func(s string) {
		if _, is := deci.Read(s, math.MaxInt); is != deci.Plain(s) {
			t.Errorf("Read(%q) answers %v, Plain %v", s, is, deci.Plain(s))
		}
	})
}

// P2.3
func TestWhatIsShownIsRead(t *testing.T) {
	check := func(n int) {
		s := deci.Show(n)
		for _, most := range []int{n, math.MaxInt} {
			if got, is := deci.Read(s, most); got != n || !is {
				t.Errorf("%d is shown as %q and read up to %d as %d, %v", n, s, most, got, is)
			}
		}
		if got, is := deci.Read(s, n-1); got != 0 || is {
			t.Errorf("%q is read up to %d as %d, %v", s, n-1, got, is)
		}
	}
	for n := range 70000 {
		check(n)
	}
	for _, n := range numbers() {
		if n >= 0 {
			check(n)
			continue
		}
		// A minus is no digit, so a number below 0 is shown, but not read.
		if got, is := deci.Read(deci.Show(n), math.MaxInt); got != 0 || is {
			t.Errorf("%d is read as %d, %v", n, got, is)
		}
	}
}

// P2.3: few zeros and many, ahead of what is read and of what is not.
func TestZerosAhead(t *testing.T) {
	for _, count := range []int{1, 2, 18, 19, 20, 21, 64, 1000, 1 << 20} {
		zeros := strings.Repeat("0", count)
		for _, s := range []string{"0", "7", "80", "65535", "65536", "9223372036854775807", "9223372036854775808", "18446744073709551617", "-1", "1a", " ", "a"} {
			for _, most := range []int{math.MinInt, -1, 0, 7, 65535, math.MaxInt} {
				want, wantIs := deci.Read(s, most)
				if n, is := deci.Read(zeros+s, most); n != want || is != wantIs {
					t.Errorf("Read(%q, %d) behind %d zeros = %d, %v, want %d, %v", s, most, count, n, is, want, wantIs)
				}
			}
		}
		if n, is := deci.Read(zeros, 0); n != 0 || !is {
			t.Errorf("Read of %d zeros = %d, %v", count, n, is)
		}
		if !deci.Plain(zeros) || deci.Plain(zeros+"/") {
			t.Errorf("Plain of %d zeros is wrong", count)
		}
	}
}

// P1: long texts are worked off.
func TestLongTexts(t *testing.T) {
	nines := strings.Repeat("9", 1<<20)
	if n, is := deci.Read(nines, math.MaxInt); n != 0 || is || !deci.Plain(nines) {
		t.Error("many digits: ", n, is)
	}
	if n, is := deci.Read(nines+"x", math.MaxInt); n != 0 || is || deci.Plain(nines+"x") {
		t.Error("many digits ahead of a letter: ", n, is)
	}
}

// R5: what was asked before changes nothing.
func TestAskedAgain(t *testing.T) {
	for range 3 {
		n, is := deci.Read("0080", 65535)
		none, isNot := deci.Read("65536", 65535)
		if n != 80 || !is || none != 0 || isNot || deci.Show(-120) != "-120" || deci.Show(0) != "0" || !deci.Plain("0129") {
			t.Fatal("an answer changed")
		}
	}
}

// FuzzNumbers holds the promises against any text and number: its seeds run with the other tests.
func FuzzNumbers(f *testing.F) {
	for _, s := range []string{"", "0", "0080", "65536", "-1", "9223372036854775808", "1\xb2"} {
		f.Add(s, 65535)
		f.Add(s, math.MinInt)
	}
	f.Fuzz(func(t *testing.T, s string, n int) {
		checkRead(t, s, n)
		checkRead(t, s, math.MaxInt)
		if got := deci.Show(n); got != strconv.Itoa(n) {
			t.Errorf("Show(%d) = %q", n, got)
		}
	})
}

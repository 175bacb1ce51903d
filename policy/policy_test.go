package policy_test

import (
	"math"
	"sync"
	"testing"

	"postmark/api"
	"postmark/policy"
)

// A way is what one goes by.
type way struct{ same, down bool }

var eachWay = []way{{false, false}, {true, false}, {false, true}, {true, true}}

// others are numbers that are no policies, nor levels.
var others = []int{-1, -2, -api.Levels, -api.PoAll, -api.Policies, api.Policies, api.Policies + 1, api.Policies + api.PoAll, 100, -100, 255, 256, -256, 1 << 16, math.MaxInt32, math.MinInt32, math.MaxUint32, 1 << 32, -1 << 32, 1 << 40, math.MaxInt, math.MaxInt - 1, math.MinInt, math.MinInt + 1}

// policies are all policies, PoNone, and numbers that are none.
func policies() []int {
	all := append([]int{}, others...)
	for p := range api.Policies {
		all = append(all, p)
	}
	return all
}

// wantUsual is P15.1.
func wantUsual(p int) int {
	switch p {
	case api.PoNever, api.PoDowngrade, api.PoSame, api.PoOrigin, api.PoStrict, api.PoCross, api.PoStrictCross, api.PoAll:
		return p
	}
	return api.PoStrictCross
}

// either is one level, if something holds, else the other one.
func either(holds bool, one, other int) int {
	if holds {
		return one
	}
	return other
}

// wantAllowed is P15.2.
func wantAllowed(p int, same, down bool) int {
	switch p {
	case api.PoNever:
		return api.LeNothing
	case api.PoOrigin:
		return api.LeOrigin
	case api.PoAll:
		return api.LeFull
	case api.PoSame:
		return either(same, api.LeFull, api.LeNothing)
	case api.PoCross:
		return either(same, api.LeFull, api.LeOrigin)
	case api.PoDowngrade:
		return either(down, api.LeNothing, api.LeFull)
	case api.PoStrict:
		return either(down, api.LeNothing, api.LeOrigin)
	}
	return either(same, api.LeFull, either(down, api.LeNothing, api.LeOrigin))
}

// wantMeet is the first part of P15.3, by going through the levels from the least one on.
func wantMeet(a, b int) int {
	levels := []int{api.LeNothing, api.LeOrigin, api.LeFull}
	for i, one := range levels {
		for _, more := range levels[i:] {
			if a == one && b == more || b == one && a == more {
				return one
			}
		}
	}
	return api.LeNothing
}

// wantMost is the second part.
func wantMost(p int) int {
	for _, l := range []int{api.LeFull, api.LeOrigin} {
		for _, w := range eachWay {
			if wantAllowed(p, w.same, w.down) == l {
				return l
			}
		}
	}
	return api.LeNothing
}

// wantStricter is the last part.
func wantStricter(p, q int) bool {
	no := 0
	for _, w := range eachWay {
		if wantAllowed(p, w.same, w.down) > wantAllowed(q, w.same, w.down) {
			no++
		}
	}
	return no == 0
}

// checkPolicy is P15.1, P15.2, the second part of P15.3, and P15.4, of a number.
func checkPolicy(t *testing.T, p int) {
	t.Helper()
	if got, want := policy.Usual(p), wantUsual(p); got != want {
		t.Errorf("Usual(%d) = %d, want %d", p, got, want)
	}
	if got, want := policy.Most(p), wantMost(p); got != want {
		t.Errorf("Most(%d) = %d, want %d", p, got, want)
	}
	for _, w := range eachWay {
		got, want := policy.Allowed(p, w.same, w.down), wantAllowed(p, w.same, w.down)
		if got != want {
			t.Errorf("Allowed(%d, %t, %t) = %d, want %d", p, w.same, w.down, got, want)
		}
		if usual := policy.Allowed(policy.Usual(p), w.same, w.down); got != usual {
			t.Errorf("Allowed(%d, %t, %t) = %d, of the usual one %d", p, w.same, w.down, got, usual)
		}
		if most := policy.Most(p); got > most {
			t.Errorf("Allowed(%d, %t, %t) = %d, at most %d", p, w.same, w.down, got, most)
		}
		if same := policy.Allowed(p, true, w.down); got > same {
			t.Errorf("Allowed(%d, %t, %t) = %d, of the same origin %d", p, w.same, w.down, got, same)
		}
		if level := policy.Allowed(p, w.same, false); got > level {
			t.Errorf("Allowed(%d, %t, %t) = %d, not down %d", p, w.same, w.down, got, level)
		}
	}
	if !policy.Stricter(api.PoNever, p) {
		t.Errorf("Stricter(%d, %d) = false: PoNever is stricter than all", api.PoNever, p)
	}
	if !policy.Stricter(p, api.PoAll) {
		t.Errorf("Stricter(%d, %d) = false: all are stricter than PoAll", p, api.PoAll)
	}
}

// checkTwo is the last part of P15.3, and the first one of two numbers as levels.
func checkTwo(t *testing.T, a, b int) {
	t.Helper()
	if got, want := policy.Stricter(a, b), wantStricter(a, b); got != want {
		t.Errorf("Stricter(%d, %d) = %t, want %t", a, b, got, want)
	}
	if policy.Stricter(a, b) && policy.Most(a) > policy.Most(b) {
		t.Errorf("%d is stricter than %d, and allows more", a, b)
	}
	got, want := policy.Meet(a, b), wantMeet(a, b)
	if got != want {
		t.Errorf("Meet(%d, %d) = %d, want %d", a, b, got, want)
	}
	if back := policy.Meet(b, a); got != back {
		t.Errorf("Meet(%d, %d) = %d, Meet(%d, %d) = %d", a, b, got, b, a, back)
	}
}

// The chapter's section "Examples".
func TestExample(t *testing.T) {
	for w, want := range map[way]int{{true, false}: api.LeFull, {true, true}: api.LeFull, {false, false}: api.LeOrigin, {false, true}: api.LeNothing} {
		if got := policy.Allowed(api.PoStrictCross, w.same, w.down); got != want {
			t.Errorf("Allowed(PoStrictCross, %t, %t) = %d, want %d", w.same, w.down, got, want)
		}
	}
}

// The numbers on which the tables of these tests stand.
func TestNumbers(t *testing.T) {
	if api.Levels != 3 || api.LeNothing != 0 || api.LeOrigin != 1 || api.LeFull != 2 {
		t.Errorf("levels %d, %d, %d of %d", api.LeNothing, api.LeOrigin, api.LeFull, api.Levels)
	}
	if api.Policies != 9 || api.PoNone != 0 || api.PoAll != 8 {
		t.Errorf("policies from %d to %d of %d", api.PoNone, api.PoAll, api.Policies)
	}
}

// P15.1
func TestUsual(t *testing.T) {
	for p := 1; p < api.Policies; p++ {
		if got := policy.Usual(p); got != p {
			t.Errorf("Usual(%d) = %d", p, got)
		}
	}
	for _, p := range append([]int{api.PoNone}, others...) {
		if got := policy.Usual(p); got != api.PoStrictCross {
			t.Errorf("Usual(%d) = %d, want %d", p, got, api.PoStrictCross)
		}
	}
	for p := -1000; p <= 1000; p++ {
		if got, want := policy.Usual(p), wantUsual(p); got != want {
			t.Errorf("Usual(%d) = %d, want %d", p, got, want)
		}
		if got, want := policy.Usual(policy.Usual(p)), policy.Usual(p); got != want {
			t.Errorf("Usual of Usual(%d) = %d, want %d", p, got, want)
		}
	}
}

// P15.1, P15.2: numbers that are a policy, or a level, in fewer bits.
func TestFarNumbers(t *testing.T) {
	for p := range api.Policies {
		for bits := 4; bits < 64; bits++ {
			for _, q := range []int{p + 1<<bits, p - 1<<bits, p | 1<<bits, -p - 1<<bits} {
				if got := policy.Usual(q); got != api.PoStrictCross {
					t.Errorf("Usual(%d) = %d", q, got)
				}
				checkPolicy(t, q)
				checkTwo(t, p, q)
				checkTwo(t, q, p)
			}
		}
	}
}

// P15.2: another origin, the same one, down to another, down to the same.
func TestAllowed(t *testing.T) {
	n, o, f := api.LeNothing, api.LeOrigin, api.LeFull
	table := map[int][4]int{
		api.PoNever:       {n, n, n, n},
		api.PoDowngrade:   {f, f, n, n},
		api.PoSame:        {n, f, n, f},
		api.PoOrigin:      {o, o, o, o},
		api.PoStrict:      {o, o, n, n},
		api.PoCross:       {o, f, o, f},
		api.PoStrictCross: {o, f, n, f},
		api.PoAll:         {f, f, f, f},
	}
	for _, p := range policies() {
		row, named := table[p]
		if !named {
			row = table[api.PoStrictCross]
		}
		for i, w := range eachWay {
			if got := policy.Allowed(p, w.same, w.down); got != row[i] {
				t.Errorf("Allowed(%d, %t, %t) = %d, want %d", p, w.same, w.down, got, row[i])
			}
		}
		checkPolicy(t, p)
	}
}

// P15.2 and P15.4, of many numbers.
func TestManyNumbers(t *testing.T) {
	for p := -1000; p <= 1000; p++ {
		checkPolicy(t, p)
	}
}

// P15.3
func TestMeet(t *testing.T) {
	n, o, f := api.LeNothing, api.LeOrigin, api.LeFull
	for pair, want := range map[[2]int]int{
		{n, n}: n, {n, o}: n, {n, f}: n,
		{o, n}: n, {o, o}: o, {o, f}: o,
		{f, n}: n, {f, o}: o, {f, f}: f,
	} {
		if got := policy.Meet(pair[0], pair[1]); got != want {
			t.Errorf("Meet(%d, %d) = %d, want %d", pair[0], pair[1], got, want)
		}
	}
	none := append([]int{api.Levels, api.Levels + 1}, others...)
	for _, a := range none {
		for l := range api.Levels {
			if got := policy.Meet(a, l); got != n {
				t.Errorf("Meet(%d, %d) = %d, want %d", a, l, got, n)
			}
			if got := policy.Meet(l, a); got != n {
				t.Errorf("Meet(%d, %d) = %d, want %d", l, a, got, n)
			}
		}
		for _, b := range none {
			if got := policy.Meet(a, b); got != n {
				t.Errorf("Meet(%d, %d) = %d, want %d", a, b, got, n)
			}
		}
	}
	for a := -40; a <= 40; a++ {
		for b := -40; b <= 40; b++ {
			if got, want := policy.Meet(a, b), wantMeet(a, b); got != want {
				t.Errorf("Meet(%d, %d) = %d, want %d", a, b, got, want)
			}
		}
	}
}

// P15.3: three levels meet in one, in whatever order.
func TestMeetOfThree(t *testing.T) {
	for a := -1; a <= api.Levels; a++ {
		for b := -1; b <= api.Levels; b++ {
			for c := -1; c <= api.Levels; c++ {
				one, other := policy.Meet(policy.Meet(a, b), c), policy.Meet(a, policy.Meet(b, c))
				if one != other {
					t.Errorf("%d, %d and %d meet in %d, and in %d", a, b, c, one, other)
				}
			}
		}
	}
}

// P15.3
func TestMost(t *testing.T) {
	for p, want := range map[int]int{
		api.PoNever: api.LeNothing, api.PoOrigin: api.LeOrigin, api.PoStrict: api.LeOrigin,
		api.PoDowngrade: api.LeFull, api.PoSame: api.LeFull, api.PoCross: api.LeFull, api.PoStrictCross: api.LeFull, api.PoAll: api.LeFull,
		api.PoNone: api.LeFull, api.Policies: api.LeFull, -1: api.LeFull, math.MaxInt: api.LeFull, math.MinInt: api.LeFull,
	} {
		if got := policy.Most(p); got != want {
			t.Errorf("Most(%d) = %d, want %d", p, got, want)
		}
	}
	for _, p := range policies() {
		most, reached := policy.Most(p), false
		for _, w := range eachWay {
			reached = reached || policy.Allowed(p, w.same, w.down) == most
		}
		if !reached {
			t.Errorf("Most(%d) = %d, which it allows nowhere", p, most)
		}
	}
}

// P15.3: each policy, and those that are no less strict: it is stricter than these, and than no others.
func TestStricter(t *testing.T) {
	never, downgrade, same, origin, strict, cross, strictCross, all := api.PoNever, api.PoDowngrade, api.PoSame, api.PoOrigin, api.PoStrict, api.PoCross, api.PoStrictCross, api.PoAll
	for p, than := range map[int][]int{
		never:       {never, downgrade, same, origin, strict, cross, strictCross, all},
		downgrade:   {downgrade, all},
		same:        {same, cross, strictCross, all},
		origin:      {origin, cross, all},
		strict:      {downgrade, origin, strict, cross, strictCross, all},
		cross:       {cross, all},
		strictCross: {cross, strictCross, all},
		all:         {all},
	} {
		want := map[int]bool{}
		for _, q := range than {
			want[q] = true
		}
		for q := 1; q < api.Policies; q++ {
			if got := policy.Stricter(p, q); got != want[q] {
				t.Errorf("Stricter(%d, %d) = %t, want %t", p, q, got, want[q])
			}
		}
	}
}

// P15.3: a number that is no policy is as strict as PoStrictCross.
func TestStricterOfOthers(t *testing.T) {
	for _, p := range policies() {
		for _, other := range append([]int{api.PoNone}, others...) {
			if got, want := policy.Stricter(p, other), policy.Stricter(p, api.PoStrictCross); got != want {
				t.Errorf("Stricter(%d, %d) = %t, want %t", p, other, got, want)
			}
			if got, want := policy.Stricter(other, p), policy.Stricter(api.PoStrictCross, p); got != want {
				t.Errorf("Stricter(%d, %d) = %t, want %t", other, p, got, want)
			}
		}
		for _, q := range policies() {
			checkTwo(t, p, q)
		}
		if !policy.Stricter(p, p) {
			t.Errorf("Stricter(%d, %d) = false", p, p)
		}
	}
}

// P15.3: what is stricter than a stricter one is stricter; two that are each stricter than the other one are the same.
func TestStricterOfThree(t *testing.T) {
	for p := range api.Policies {
		for q := range api.Policies {
			if policy.Stricter(p, q) && policy.Stricter(q, p) && policy.Usual(p) != policy.Usual(q) {
				t.Errorf("%d and %d are each stricter than the other one", p, q)
			}
			for r := range api.Policies {
				if policy.Stricter(p, q) && policy.Stricter(q, r) && !policy.Stricter(p, r) {
					t.Errorf("%d is stricter than %d, that than %d, and the first one not than the last one", p, q, r)
				}
			}
		}
	}
}

// P15.4
func TestNeverMore(t *testing.T) {
	for _, p := range policies() {
		for _, other := range []bool{false, true} {
			if cross, same := policy.Allowed(p, false, other), policy.Allowed(p, true, other); cross > same {
				t.Errorf("%d allows %d to another origin, %d to the same (down: %t)", p, cross, same, other)
			}
			if down, level := policy.Allowed(p, other, true), policy.Allowed(p, other, false); down > level {
				t.Errorf("%d allows %d down, %d not down (the same: %t)", p, down, level, other)
			}
		}
	}
}

// P15.4
func TestStrictest(t *testing.T) {
	for _, p := range policies() {
		if !policy.Stricter(api.PoNever, p) || !policy.Stricter(p, api.PoAll) {
			t.Errorf("%d is not between PoNever and PoAll", p)
		}
		if got, want := policy.Stricter(p, api.PoNever), p == api.PoNever; got != want {
			t.Errorf("Stricter(%d, PoNever) = %t", p, got)
		}
		if got, want := policy.Stricter(api.PoAll, p), p == api.PoAll; got != want {
			t.Errorf("Stricter(PoAll, %d) = %t", p, got)
		}
	}
}

// R5: what was asked before, or is asked meanwhile, changes nothing.
func TestAskedAgain(t *testing.T) {
	var all sync.WaitGroup
	for range 4 {
		all.Go(func() {
			for range 3 {
				for _, p := range policies() {
					checkPolicy(t, p)
					for _, q := range policies() {
						checkTwo(t, p, q)
					}
				}
			}
		})
	}
	all.Wait()
}

// FuzzAllowed holds the promises against any numbers: its seeds run with the other tests.
func FuzzAllowed(f *testing.F) {
	f.Add(0, 8, 2)
	f.Add(1, 7, 1)
	f.Add(-1, 9, 3)
	f.Add(3, 6, 0)
	f.Add(math.MaxInt, math.MinInt, 1<<32)
	f.Fuzz(func(t *testing.T, p, q, r int) {
		for _, x := range []int{p, q, r} {
			checkPolicy(t, x)
			for _, y := range []int{p, q, r} {
				checkTwo(t, x, y)
			}
			for y := range api.Policies {
				checkTwo(t, x, y)
				checkTwo(t, y, x)
			}
		}
	})
}

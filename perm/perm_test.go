package perm

import (
	"math"
	"math/rand"
	"slices"
	"testing"
)

// edges are numbers that are no variable: the nearest, those that wrap or shift onto variables and places, the least and the greatest.
var edges = []int{-1, -2, -7, -8, 8, 9, 15, 16, 63, 64, 65, 71, -63, -64, 255, 256, 263, -256, -249, 1<<31 - 1, 1 << 31, -1 << 31, 1<<32 - 1, 1 << 32, 1<<32 + 5, -1 << 32, 5 - 1<<32, 1 << 62, -1 << 62, math.MaxInt - 1, math.MaxInt, math.MinInt, math.MinInt + 1, math.MinInt + 7}

// numbers are the variables, and the edges.
func numbers() []int { return append([]int{0, 1, 2, 3, 4, 5, 6, 7}, edges...) }

// all tells every order in which each variable stands.
func all() [][8]int {
	var l [][8]int
	var lay func(p [8]int, at int)
	lay = func(p [8]int, at int) {
		if at == len(p) {
			l = append(l, p)
			return
		}
		for i := at; i < len(p); i++ {
			next := p
			next[at], next[i] = p[i], p[at]
			lay(next, at+1)
		}
	}
	lay([8]int{0, 1, 2, 3, 4, 5, 6, 7}, 0)
	return l
}

// right are some orders that may be: the plain one, it turned, it shifted round, and some of no shape.
func right() [][8]int {
	l := [][8]int{{0, 1, 2, 3, 4, 5, 6, 7}, {7, 6, 5, 4, 3, 2, 1, 0}, {1, 2, 3, 4, 5, 6, 7, 0}, {7, 0, 1, 2, 3, 4, 5, 6}, {3, 1, 4, 0, 5, 2, 7, 6}}
	r := rand.New(rand.NewSource(6))
	for range 5 {
		l = append(l, [8]int(r.Perm(8)))
	}
	return l
}

// wrong are orders that may not be: numbers that stand twice and oftener, beside each other and apart, and numbers that are no variable.
func wrong() [][8]int {
	return [][8]int{
		{},
		{7, 7, 7, 7, 7, 7, 7, 7},
		{0, 1, 2, 3, 4, 5, 6, 6},
		{0, 0, 1, 2, 3, 4, 5, 6},
		{7, 1, 2, 3, 4, 5, 6, 7},
		{0, 1, 2, 4, 4, 5, 6, 7},
		{0, 0, 3, 3, 4, 5, 6, 7},
		{5, 2, 5, 2, 7, 5, 2, 7},
		{1, 2, 3, 4, 5, 6, 7, 8},
		{-1, 0, 1, 2, 3, 4, 5, 6},
		{-1, -1, -1, -1, -1, -1, -1, -1},
		{8, 1, 8, 3, -1, 3, -1, 0},
		{64, 65, 66, 67, 68, 69, 70, 71},
		{256, 257, 258, 259, 260, 261, 262, 263},
		{1 << 32, 1<<32 + 1, 1<<32 + 2, 1<<32 + 3, 4 - 1<<32, 5, 6, 7},
		{0, -1, -2, -3, -4, -5, -6, -7},
		{math.MaxInt, math.MinInt, math.MinInt + 1, math.MaxInt - 1, math.MinInt, math.MaxInt, 2, 1},
	}
}

// samples are all of these, and orders of edges and variables with no shape.
func samples() [][8]int {
	l := append(right(), wrong()...)
	n := numbers()
	r := rand.New(rand.NewSource(7))
	for range 200 {
		var p [8]int
		for i := range p {
			p[i] = n[r.Intn(1+r.Intn(len(n)))]
		}
		l = append(l, p)
	}
	return l
}

// mayBe is the chapter's words, by a list of what stands there.
func mayBe(p [8]int) bool {
	for v := 0; v <= 7; v++ {
		if !slices.Contains(p[:], v) {
			return false
		}
	}
	return true
}

// holdMay holds May against the chapter's words.
func holdMay(t *testing.T, p [8]int) {
	t.Helper()
	if got := May(p); got != mayBe(p) {
		t.Fatalf("May(%v) tells %v", p, got)
	}
}

// holdLevel holds Level against the chapter's words: v stands there and nowhere ahead, or nowhere at all.
func holdLevel(t *testing.T, p [8]int, v int) {
	t.Helper()
	if got := Level(p, v); got != slices.Index(p[:], v) {
		t.Fatalf("Level(%v, %d) tells %d", p, v, got)
	}
}

// swapped is the chapter's words, laid out place by place.
func swapped(p [8]int, l int) [8]int {
	var q [8]int
	for i := range q {
		switch {
		case 0 <= l && l <= 6 && i == l:
			q[i] = p[i+1]
		case 0 <= l && l <= 6 && i > 0 && i-1 == l:
			q[i] = p[i-1]
		default:
			q[i] = p[i]
		}
	}
	return q
}

// holdSwap holds Swap against the chapter's words, and against what follows from them.
func holdSwap(t *testing.T, p [8]int, l int) {
	t.Helper()
	q := Swap(p, l)
	if q != swapped(p, l) {
		t.Fatalf("Swap(%v, %d) tells %v", p, l, q)
	}
	if twice := Swap(q, l); twice != p {
		t.Fatalf("Swap(%v, %d) twice tells %v", p, l, twice)
	}
	if May(q) != May(p) {
		t.Fatalf("May tells %v of %v, and %v behind Swap at %d", May(p), p, May(q), l)
	}
	holdOthers(t, p, q, l)
}

// holdOthers holds the levels of all that isn't exchanged, what stands nowhere too: they stay.
func holdOthers(t *testing.T, p, q [8]int, l int) {
	t.Helper()
	for v := -1; v <= 8; v++ {
		if 0 <= l && l <= 6 && (v == p[l] || v == p[l+1]) {
			continue
		}
		if Level(q, v) != Level(p, v) {
			t.Fatalf("Swap(%v, %d): %d was at level %d, is at %d", p, l, v, Level(p, v), Level(q, v))
		}
	}
}

// P6.1: the chapter's example.
func TestExample(t *testing.T) {
	p := [8]int{0, 1, 2, 3, 4, 5, 6, 7}
	if q := Swap(p, 1); q != [8]int{0, 2, 1, 3, 4, 5, 6, 7} {
		t.Errorf("Swap(%v, 1) tells %v", p, q)
	}
}

// P6.1: all orders in which each variable stands may be.
func TestMayAll(t *testing.T) {
	l := all()
	if len(l) != 40320 {
		t.Fatalf("%d orders", len(l))
	}
	for _, p := range l {
		if !May(p) {
			t.Fatalf("May(%v) tells false", p)
		}
	}
}

// P6.1: no choice of eight numbers from -1 to 8 may be but the one of each variable, however it is laid.
func TestMayAllChoices(t *testing.T) {
	r := rand.New(rand.NewSource(8))
	may := 0
	var choose func(p [8]int, at, least int)
	choose = func(p [8]int, at, least int) {
		if at < len(p) {
			for v := least; v <= 8; v++ {
				p[at] = v
				choose(p, at+1, v)
			}
			return
		}
		holdMay(t, p)
		if May(p) {
			may++
		}
		slices.Reverse(p[:])
		holdMay(t, p)
		r.Shuffle(len(p), func(i, j int) { p[i], p[j] = p[j], p[i] })
		holdMay(t, p)
	}
	choose([8]int{}, 0, -1)
	if may != 1 {
		t.Errorf("%d choices may be", may)
	}
}

// P6.1: an order that may be, and with another number at one place may not, be it any number and any place.
func TestMayWithOneWrong(t *testing.T) {
	for _, p := range right() {
		for at := range p {
			for _, n := range numbers() {
				q := p
				q[at] = n
				if May(q) != (n == p[at]) {
					t.Fatalf("May(%v) tells %v", q, May(q))
				}
			}
		}
	}
}

// P6.1: numbers that are none, all at once, though they wrap onto variables.
func TestMayNot(t *testing.T) {
	for _, p := range wrong() {
		if May(p) {
			t.Errorf("May(%v) tells true", p)
		}
	}
	for _, p := range samples() {
		holdMay(t, p)
	}
}

// P6.1: in an order that may be each variable's level is its place, and that of what is none is -1.
func TestLevelOfEach(t *testing.T) {
	for _, p := range all() {
		for l, v := range p {
			if got := Level(p, v); got != l {
				t.Fatalf("Level(%v, %d) tells %d", p, v, got)
			}
		}
		if got := Level(p, 8); got != -1 {
			t.Fatalf("Level(%v, 8) tells %d", p, got)
		}
	}
	for _, p := range right() {
		for _, v := range edges {
			if got := Level(p, v); got != -1 {
				t.Fatalf("Level(%v, %d) tells %d", p, v, got)
			}
		}
	}
}

// P6.1: of all the places at which a number stands it is the first, be they whichever, and the number any.
func TestLevelAtSomePlaces(t *testing.T) {
	for places := range 256 {
		for i, v := range numbers() {
			other := numbers()[(i+1+places%5)%len(numbers())]
			var p [8]int
			first := -1
			for l := len(p) - 1; l >= 0; l-- {
				p[l] = other
				if places>>l&1 == 1 {
					p[l], first = v, l
				}
			}
			if got := Level(p, v); got != first {
				t.Fatalf("Level(%v, %d) tells %d, not %d", p, v, got, first)
			}
		}
	}
}

// P6.1: in orders that may be and that may not, any number that stands there, and any that doesn't.
func TestLevelOfAny(t *testing.T) {
	for _, p := range samples() {
		for _, v := range numbers() {
			holdLevel(t, p, v)
		}
		for _, v := range p {
			holdLevel(t, p, v)
		}
	}
}

// P6.1, P6.2: all orders that may be, at all levels, and at the nearest to these.
func TestSwapAll(t *testing.T) {
	for _, p := range all() {
		for l := -1; l <= 8; l++ {
			holdSwap(t, p, l)
		}
	}
}

// P6.1: the first and the last place, and what stays as it is behind these.
func TestSwapAtEnds(t *testing.T) {
	p := [8]int{10, 11, 12, 13, 14, 15, 16, 17}
	for l, want := range map[int][8]int{
		-2: p,
		-1: p,
		0:  {11, 10, 12, 13, 14, 15, 16, 17},
		6:  {10, 11, 12, 13, 14, 15, 17, 16},
		7:  p,
		8:  p,
	} {
		if got := Swap(p, l); got != want {
			t.Errorf("Swap at %d tells %v", l, got)
		}
	}
}

// P6.1, P1: at what isn't 0 to 6 nothing happens, be it the least or the greatest number, and the order any.
func TestSwapAtNone(t *testing.T) {
	for _, p := range samples() {
		for _, l := range append([]int{7}, edges...) {
			if got := Swap(p, l); got != p {
				t.Fatalf("Swap(%v, %d) tells %v", p, l, got)
			}
		}
	}
}

// P6.1, P6.2: orders in which numbers stand twice, or are no variables, are exchanged like any.
func TestSwapAny(t *testing.T) {
	for _, p := range samples() {
		for _, l := range numbers() {
			holdSwap(t, p, l)
		}
	}
}

// P6.2: the two that are exchanged change levels with each other, and by swaps alone each may come to each level.
func TestSwapMoves(t *testing.T) {
	for _, p := range right() {
		for v := range 8 {
			q := p
			for l := Level(q, v); l < 7; l++ {
				next := Swap(q, l)
				if Level(next, v) != l+1 || Level(next, q[l+1]) != l {
					t.Fatalf("Swap(%v, %d) tells %v", q, l, next)
				}
				q = next
			}
			for l := 7; l > 0; l-- {
				q = Swap(q, l-1)
				if Level(q, v) != l-1 || !May(q) {
					t.Fatalf("%d goes up from level %d: %v", v, l, q)
				}
			}
			if q[0] != v {
				t.Fatalf("%d is to be at level 0: %v", v, q)
			}
		}
	}
}

// R2: what is handed in stays as it is, what is told is apart from it, and nothing is kept between calls.
func TestNothingIsChanged(t *testing.T) {
	for _, p := range samples() {
		for _, l := range numbers() {
			kept := p
			may, level, q := May(p), Level(p, l), Swap(p, l)
			told := q
			if p != kept {
				t.Fatalf("%v is %v now", kept, p)
			}
			for i := range q {
				q[i] = ^q[i]
			}
			if p != kept {
				t.Fatalf("%v is %v now, as what was told of it was changed", kept, p)
			}
			if May(p) != may || Level(p, l) != level || Swap(p, l) != told {
				t.Fatalf("of %v and %d a second time something else is told", p, l)
			}
		}
	}
}

// P1, P6.1, P6.2: no argument makes a call panic, and all is as the chapter's words tell it.
func FuzzAllArguments(f *testing.F) {
	for _, p := range append(right(), wrong()...) {
		for _, n := range []int{0, 6, 7, -1, math.MinInt, math.MaxInt} {
			f.Add(p[0], p[1], p[2], p[3], p[4], p[5], p[6], p[7], n)
		}
	}
	f.Fuzz(func(t *testing.T, a, b, c, d, e, g, h, i, n int) {
		p := [8]int{a, b, c, d, e, g, h, i}
		holdMay(t, p)
		holdLevel(t, p, n)
		holdSwap(t, p, n)
		holdSwap(t, p, n&7)
	})
}

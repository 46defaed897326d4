package cof

import (
	"bower/api"
	"bower/tab"
	"math"
	"math/rand"
	"testing"
)

// notVars are the nearest wrong numbers, those that wrap or shift onto right ones, and the farthest.
var notVars = []int{-1, -2, -6, -7, -8, -64, 8, 9, 10, 15, 16, 63, 64, 65, 255, 256, 1 << 32, -1 << 32, 1<<32 + 3, math.MaxInt, math.MinInt, math.MinInt + 1}

// bit reads the table as chapter 1 lays it out.
func bit(f api.Func, x int) bool { return f[x/64]&(uint64(1)<<(x%64)) != 0 }

// table lays a function out row by row.
func table(value func(x int) bool) api.Func {
	var f api.Func
	for x := range api.Rows {
		if value(x) {
			f[x/64] |= 1 << (x % 64)
		}
	}
	return f
}

// set tells row x with v set to b.
func set(x, v int, b bool) int {
	if b {
		return x | 1<<v
	}
	return x &^ (1 << v)
}

// samples has the constants, the variables and their opposites, functions true in one row alone (or in all others), and some of no shape.
func samples() []api.Func {
	all := ^uint64(0)
	l := []api.Func{{}, {all, all, all, all}, {all}, {0, all}, {0, 0, all}, {0, 0, 0, all}}
	for v := range api.Vars {
		f := table(func(x int) bool { return x>>v&1 == 1 })
		l = append(l, f, api.Func{^f[0], ^f[1], ^f[2], ^f[3]})
	}
	for _, x := range []int{0, 1, 37, 63, 64, 111, 127, 128, 148, 191, 192, 222, 254, 255} {
		f := table(func(y int) bool { return x == y })
		l = append(l, f, api.Func{^f[0], ^f[1], ^f[2], ^f[3]})
	}
	r := rand.New(rand.NewSource(2))
	for range 12 {
		l = append(l, api.Func{r.Uint64(), r.Uint64(), r.Uint64(), r.Uint64()})
	}
	return l
}

// same holds f against what it should be, and tells the first row in which it isn't.
func same(t *testing.T, what string, v int, f, want api.Func) {
	t.Helper()
	for x := range api.Rows {
		if bit(f, x) != bit(want, x) {
			t.Fatalf("%s by %d: row %d is %v", what, v, x, bit(f, x))
		}
	}
}

// P2.1
func TestCof(t *testing.T) {
	for _, f := range samples() {
		for v := range api.Vars {
			for _, b := range []bool{false, true} {
				same(t, "Cof", v, Cof(f, v, b), table(func(x int) bool { return bit(f, set(x, v, b)) }))
			}
		}
	}
}

// P2.1: each row goes where it should, and nowhere else.
func TestCofOfOneRow(t *testing.T) {
	for y := range api.Rows {
		f := table(func(x int) bool { return x == y })
		for v := range api.Vars {
			for _, b := range []bool{false, true} {
				same(t, "Cof", v, Cof(f, v, b), table(func(x int) bool { return set(x, v, b) == y }))
			}
		}
	}
}

// P2.1
func TestDepends(t *testing.T) {
	for i, f := range samples() {
		for v := range api.Vars {
			want := false
			for x := range api.Rows {
				want = want || bit(f, x) != bit(f, x^1<<v)
			}
			if Depends(f, v) != want {
				t.Errorf("sample %d depends on %d: %v", i, v, !want)
			}
		}
	}
}

// P2.1: a function that two rows alone tell apart depends on just that variable in which they differ.
func TestDependsByOneRow(t *testing.T) {
	for v := range api.Vars {
		for y := range api.Rows {
			pair := table(func(x int) bool { return x == y || x == y^1<<v })
			one := table(func(x int) bool { return x == y })
			if Depends(pair, v) || !Depends(one, v) {
				t.Fatalf("row %d, variable %d", y, v)
			}
		}
	}
}

// P2.1: for each set of variables, the function that is odd in them depends on just these.
func TestSupport(t *testing.T) {
	for chosen := range 1 << api.Vars {
		odd, every := tab.Const(false), tab.Const(true)
		for v := range api.Vars {
			if chosen>>v&1 == 1 {
				odd, every = tab.Xor(odd, tab.Var(v)), tab.And(every, tab.Var(v))
			}
		}
		if Support(odd) != chosen || Support(every) != chosen || Support(tab.Not(every)) != chosen {
			t.Fatalf("support of %08b: %08b, %08b", chosen, Support(odd), Support(every))
		}
	}
	if Support(tab.Const(false)) != 0 || Support(tab.Const(true)) != 0 {
		t.Error("a constant depends on something")
	}
	for i, f := range samples() {
		sum := 0
		for v := range api.Vars {
			if Depends(f, v) {
				sum += 1 << v
			}
		}
		if Support(f) != sum {
			t.Errorf("sample %d: support %08b, but it depends on %08b", i, Support(f), sum)
		}
	}
}

// P2.2
func TestExistsAndForall(t *testing.T) {
	for _, f := range samples() {
		for v := range api.Vars {
			same(t, "Exists", v, Exists(f, v), table(func(x int) bool { return bit(f, x) || bit(f, x^1<<v) }))
			same(t, "Forall", v, Forall(f, v), table(func(x int) bool { return bit(f, x) && bit(f, x^1<<v) }))
		}
	}
	if Exists(tab.And(tab.Var(0), tab.Var(1)), 0) != tab.Var(1) {
		t.Error("the chapter's example: Exists(x0 and x1, 0) isn't x1")
	}
}

// P2.2
func TestCompose(t *testing.T) {
	for _, f := range samples() {
		for v := range api.Vars {
			for _, g := range samples() {
				same(t, "Compose", v, Compose(f, v, g), table(func(x int) bool { return bit(f, set(x, v, bit(g, x))) }))
			}
		}
	}
}

// P2.2: a g that depends on v is read in the row as it stands.
func TestComposeByWhatDependsOnIt(t *testing.T) {
	for v := range api.Vars {
		p := tab.Var(v)
		for w := range api.Vars {
			q := tab.Var(w)
			if Compose(p, v, tab.Xor(p, q)) != tab.Xor(p, q) {
				t.Errorf("Compose of variable %d by its xor with %d", v, w)
			}
		}
		if Compose(p, v, tab.Not(p)) != tab.Not(p) {
			t.Errorf("Compose of variable %d by its opposite", v)
		}
	}
}

// P2.2: with n rows from the first on, or from the last back, there are n.
func TestCount(t *testing.T) {
	for n := range api.Rows + 1 {
		low := table(func(x int) bool { return x < n })
		high := table(func(x int) bool { return x >= api.Rows-n })
		if Count(low) != n || Count(high) != n {
			t.Fatalf("%d rows: %d, %d", n, Count(low), Count(high))
		}
	}
	for i, f := range samples() {
		n := 0
		for x := range api.Rows {
			if bit(f, x) {
				n++
			}
		}
		if Count(f) != n {
			t.Errorf("sample %d: %d rows are told, and %d are true", i, Count(f), n)
		}
	}
}

// P2.1, P2.2, R3, P1: by what is no variable f stays as it is.
func TestByNoVariable(t *testing.T) {
	for i, f := range samples() {
		for _, v := range notVars {
			if Cof(f, v, false) != f || Cof(f, v, true) != f {
				t.Errorf("sample %d: Cof by %d isn't f", i, v)
			}
			if Depends(f, v) {
				t.Errorf("sample %d depends on %d", i, v)
			}
			if Exists(f, v) != f || Forall(f, v) != f {
				t.Errorf("sample %d: Exists or Forall by %d isn't f", i, v)
			}
			for _, g := range samples() {
				if Compose(f, v, g) != f {
					t.Errorf("sample %d: Compose by %d isn't f", i, v)
				}
			}
		}
	}
}

// P2.3
func TestWhatFollows(t *testing.T) {
	for _, f := range samples() {
		for v := range api.Vars {
			low, high := Cof(f, v, false), Cof(f, v, true)
			if Depends(low, v) || Depends(high, v) || Support(low)>>v&1 == 1 || Support(high)>>v&1 == 1 {
				t.Fatalf("Cof of %x by %d depends on it", f, v)
			}
			if tab.Ite(tab.Var(v), high, low) != f {
				t.Fatalf("%x isn't Ite of variable %d and Cof of both", f, v)
			}
			if Compose(f, v, tab.Var(v)) != f {
				t.Fatalf("Compose of %x by variable %d itself is %x", f, v, Compose(f, v, tab.Var(v)))
			}
		}
	}
}

// R2
func TestNothingHandedInChanges(t *testing.T) {
	for i, f := range samples() {
		was := f
		for v := range api.Vars {
			told := Cof(f, v, true)
			kept := told
			Cof(f, v, false)
			Depends(f, v)
			Support(f)
			Exists(f, v)
			Forall(f, v)
			Compose(f, v, f)
			Count(f)
			if f != was || told != kept {
				t.Errorf("sample %d changed by %d", i, v)
			}
			told[0]++
			told[3]++
			if f != was || Cof(f, v, true) != kept {
				t.Errorf("sample %d: what was told by %d is kept", i, v)
			}
		}
	}
}

// P1, P2.1, P2.2: no argument makes a call panic, and what is no variable leaves f as it is.
func FuzzAllArguments(f *testing.F) {
	for _, v := range append([]int{0, 1, 5, 6, 7}, notVars...) {
		f.Add(v, uint64(0x123456789abcdef0), ^uint64(0), uint64(1)<<63)
	}
	f.Fuzz(func(t *testing.T, v int, a, b, c uint64) {
		g, h := api.Func{a, b, c, a ^ b}, api.Func{c, a, b ^ c, ^b}
		low, high := Cof(g, v, false), Cof(g, v, true)
		if v < 0 || v >= api.Vars {
			if low != g || high != g || Exists(g, v) != g || Forall(g, v) != g || Compose(g, v, h) != g || Depends(g, v) {
				t.Errorf("by %d, which is no variable, %x changes", v, g)
			}
			return
		}
		if tab.Ite(tab.Var(v), high, low) != g || Compose(g, v, h) != tab.Ite(h, high, low) {
			t.Errorf("Cof or Compose of %x by %d", g, v)
		}
		if Count(Exists(g, v))+Count(Forall(g, v)) != 2*Count(g) || Depends(g, v) != (Support(g)>>v&1 == 1) {
			t.Errorf("Exists, Forall, Count, Depends or Support of %x by %d", g, v)
		}
	})
}

package tab

import (
	"bower/api"
	"math"
	"math/rand"
	"testing"
)

// notVars and notRows are the nearest wrong numbers, those that wrap or shift onto right ones, and the farthest.
var (
	notVars = []int{-1, -2, -7, -8, -64, 8, 9, 15, 16, 63, 64, 65, 255, 256, 1 << 32, -1 << 32, math.MaxInt, math.MinInt, math.MinInt + 1}
	notRows = []int{-1, -2, -63, -64, -65, -255, -256, -257, 256, 257, 319, 320, 511, 512, 1 << 32, -1 << 32, math.MaxInt, math.MinInt, math.MinInt + 1}
)

// bit reads the table as the chapter lays it out, without calling At.
func bit(f api.Func, x int) bool { return f[x/64]&(uint64(1)<<(x%64)) != 0 }

// samples has the constants, the variables, each function that is true in one row alone, its opposite, and some of no shape.
func samples() []api.Func {
	all := ^uint64(0)
	l := []api.Func{{}, {all, all, all, all}, {all}, {0, all}, {0, 0, all}, {0, 0, 0, all}}
	for v := range api.Vars {
		var f api.Func
		for x := range api.Rows {
			if x>>v&1 == 1 {
				f[x/64] |= 1 << (x % 64)
			}
		}
		l = append(l, f)
	}
	for x := 0; x < api.Rows; x += 37 {
		var f api.Func
		f[x/64] = 1 << (x % 64)
		l = append(l, f, api.Func{^f[0], ^f[1], ^f[2], ^f[3]})
	}
	r := rand.New(rand.NewSource(1))
	for range 12 {
		l = append(l, api.Func{r.Uint64(), r.Uint64(), r.Uint64(), r.Uint64()})
	}
	return l
}

// sameRows holds f against what each row should have.
func sameRows(t *testing.T, what string, f api.Func, want func(x int) bool) {
	t.Helper()
	for x := range api.Rows {
		if bit(f, x) != want(x) {
			t.Fatalf("%s: row %d is %v", what, x, bit(f, x))
		}
	}
}

// P1.1: one bit alone is true just in its own row.
func TestAtOneRow(t *testing.T) {
	for y := range api.Rows {
		var f api.Func
		f[y/64] = 1 << (y % 64)
		for x := range api.Rows {
			if At(f, x) != (x == y) {
				t.Fatalf("row %d of the function true in row %d alone: %v", x, y, At(f, x))
			}
		}
	}
}

// P1.1
func TestAtReadsTheTable(t *testing.T) {
	for i, f := range samples() {
		sameRows(t, "At", f, func(x int) bool { return At(f, x) })
		for _, x := range notRows {
			if At(f, x) {
				t.Errorf("sample %d: row %d, which is none, is true", i, x)
			}
		}
	}
}

// P1.1
func TestConst(t *testing.T) {
	sameRows(t, "Const(true)", Const(true), func(int) bool { return true })
	sameRows(t, "Const(false)", Const(false), func(int) bool { return false })
}

// P1.1
func TestVar(t *testing.T) {
	for v := range api.Vars {
		sameRows(t, "Var", Var(v), func(x int) bool { return x>>v&1 == 1 })
	}
	if !At(Var(3), 8) {
		t.Error("the chapter's example: At(Var(3), 8) is false")
	}
}

// P1.1, R3
func TestVarOfNone(t *testing.T) {
	for _, v := range notVars {
		if Var(v) != (api.Func{}) {
			t.Errorf("Var(%d), of no variable, is %x", v, Var(v))
		}
	}
}

// P1.2
func TestNot(t *testing.T) {
	for _, f := range samples() {
		sameRows(t, "Not", Not(f), func(x int) bool { return !bit(f, x) })
	}
}

// P1.2
func TestOfTwo(t *testing.T) {
	for _, f := range samples() {
		for _, g := range samples() {
			sameRows(t, "And", And(f, g), func(x int) bool { return bit(f, x) && bit(g, x) })
			sameRows(t, "Or", Or(f, g), func(x int) bool { return bit(f, x) || bit(g, x) })
			sameRows(t, "Xor", Xor(f, g), func(x int) bool { return bit(f, x) != bit(g, x) })
		}
	}
}

// P1.2
func TestIte(t *testing.T) {
	for _, f := range samples() {
		for _, g := range samples() {
			for _, h := range samples() {
				sameRows(t, "Ite", Ite(f, g, h), func(x int) bool {
					if bit(f, x) {
						return bit(g, x)
					}
					return bit(h, x)
				})
			}
		}
	}
}

// P1.3: Not of not, and And and Or by Not.
func TestNotTurnsAndToOr(t *testing.T) {
	for _, f := range samples() {
		if Not(Not(f)) != f {
			t.Fatalf("Not of Not of %x is %x", f, Not(Not(f)))
		}
		for _, g := range samples() {
			if Not(And(f, g)) != Or(Not(f), Not(g)) || Not(Or(f, g)) != And(Not(f), Not(g)) {
				t.Fatalf("And and Or of %x and %x aren't each other's by Not", f, g)
			}
		}
	}
}

// P1.3: Ite by a variable takes both apart.
func TestIteByVariable(t *testing.T) {
	for v := range api.Vars {
		p := Var(v)
		for _, g := range samples() {
			if Ite(p, g, g) != g {
				t.Fatalf("Ite(Var(%d), g, g) isn't g = %x", v, g)
			}
			for _, h := range samples() {
				f := Ite(p, g, h)
				if And(f, p) != And(g, p) || And(f, Not(p)) != And(h, Not(p)) {
					t.Fatalf("Ite(Var(%d), %x, %x) isn't the one where it is true and the other where it is false", v, g, h)
				}
			}
		}
	}
}

// R2
func TestNothingHandedInChanges(t *testing.T) {
	for i, f := range samples() {
		was := f
		told := Not(f)
		kept := told
		And(f, f)
		Or(f, f)
		Xor(f, f)
		Ite(f, f, f)
		At(f, 0)
		if f != was || told != kept {
			t.Errorf("sample %d changed", i)
		}
		told[0]++
		if Not(f) != kept {
			t.Errorf("sample %d: what was told is kept", i)
		}
	}
	for v := range api.Vars {
		f := Var(v)
		was := f
		f[0]++
		if Var(v) != was {
			t.Errorf("Var(%d) is kept", v)
		}
	}
}

// P1, R3: no argument makes a call panic; there is no row or variable that isn't one.
func FuzzAllArguments(f *testing.F) {
	for _, n := range append(append([]int{0, 7, 255}, notVars...), notRows...) {
		f.Add(n, uint64(1), ^uint64(0))
	}
	f.Fuzz(func(t *testing.T, n int, a, b uint64) {
		g := api.Func{a, b, ^a, a ^ b}
		isRow, isVar := n >= 0 && n < 256, n >= 0 && n < 8
		if At(g, n) != (isRow && bit(g, n&255)) {
			t.Errorf("At in row %d", n)
		}
		if isVar == (Var(n) == api.Func{}) {
			t.Errorf("Var(%d) is %x", n, Var(n))
		}
		if Ite(Var(n), g, Not(g)) != Xor(Var(n), Not(g)) {
			t.Errorf("Ite by Var(%d)", n)
		}
	})
}

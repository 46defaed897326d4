package size

import (
	"bower/api"
	"bower/tab"
	"math"
	"math/rand"
	"slices"
	"testing"
)

// turned is the plain order from its end.
var turned = [8]int{7, 6, 5, 4, 3, 2, 1, 0}

// wrongOrders lack variables, have some twice, and have numbers that are none: the nearest, those that wrap or shift onto right ones, the farthest.
var wrongOrders = [][8]int{
	{},
	{3, 3, 3, 3, 3, 3, 3, 3},
	{0, 1, 2, 3, 4, 5, 6, 6},
	{7, 7, 6, 5, 4, 3, 2, 1},
	{0, 0, 1, 1, 2, 2, 3, 3},
	{5, 2, 5, 2, 7, 5, 2, 7},
	{1, 2, 3, 4, 5, 6, 7, 8},
	{-1, 0, 1, 2, 3, 4, 5, 6},
	{0, 1, 2, 9, 9, 9, -1, 4},
	{6, -1, 7, 8, 6, 256, 0, -8},
	{-1, -1, -1, -1, -1, -1, -1, 4},
	{8, 8, 8, 8, 8, 8, 8, 8},
	{-1, -1, -1, -1, -1, -1, -1, -1},
	{-1, -2, -8, -64, 8, 9, 16, 64},
	{1 << 32, 1<<32 + 3, -1 << 32, 256, 263, -256, -255, 65},
	{math.MaxInt, math.MinInt, math.MinInt + 1, math.MaxInt - 1, 2, math.MaxInt32, math.MinInt32, 1},
}

// rightOrders have all eight: the plain one, it turned, two that part neighbours, and some of no shape.
func rightOrders() [][8]int {
	l := [][8]int{{0, 1, 2, 3, 4, 5, 6, 7}, turned, {0, 2, 4, 1, 3, 5, 6, 7}, {6, 0, 7, 1, 5, 2, 4, 3}}
	r := rand.New(rand.NewSource(3))
	for range 6 {
		l = append(l, [8]int(r.Perm(api.Vars)))
	}
	return l
}

func allOrders() [][8]int { return append(rightOrders(), wrongOrders...) }

// bit reads the table as chapter 1 lays it out.
func bit(f api.Func, x int) bool { return f[x/64]&(uint64(1)<<(x%64)) != 0 }

// table lays a function out row by row.
func table(value func(x int) bool) api.Func {
	var f api.Func
	for x := range api.Rows {
		if value(x) {
			f[x/64] |= 1 << (x % 64)
		}
	}
	return f
}

// samples has the constants, the variables and their opposites, functions true in one row alone (or in all others), whole words, pairs, sums, and some of no shape.
func samples() []api.Func {
	all := ^uint64(0)
	l := []api.Func{{}, {all, all, all, all}, {all}, {0, all}, {0, 0, all}, {0, 0, 0, all}}
	for v := range api.Vars {
		l = append(l, tab.Var(v), tab.Not(tab.Var(v)))
	}
	for _, y := range []int{0, 1, 100, 255} {
		f := table(func(x int) bool { return x == y })
		l = append(l, f, tab.Not(f))
	}
	odd := table(func(x int) bool { return ones(x)%2 == 1 })
	l = append(l, pairs(), odd, tab.Not(odd), table(func(x int) bool { return ones(x) > 4 }), table(func(x int) bool { return x%16 < x/16 }))
	r := rand.New(rand.NewSource(4))
	for range 6 {
		l = append(l, api.Func{r.Uint64(), r.Uint64(), r.Uint64(), r.Uint64()})
	}
	return append(l, largest(Plain()), largest(turned))
}

// ones counts the variables that are 1 in row x.
func ones(x int) int {
	n := 0
	for v := range api.Vars {
		n += x >> v & 1
	}
	return n
}

// pairs is x0 x1 or x2 x3 or x4 x5.
func pairs() api.Func {
	return table(func(x int) bool { return x&3 == 3 || x&12 == 12 || x&48 == 48 })
}

// largest needs as many nodes as one function can in that order: each setting of the first five leaves another function,
// which depends on the sixth, and below these are all functions of the last two.
func largest(order [8]int) api.Func {
	return table(func(x int) bool {
		chosen := 0
		for level, v := range order {
			chosen |= x >> v & 1 << level
		}
		first, sixth, last := chosen&31, chosen>>5&1, chosen>>6
		below := first % 16
		if sixth == 1 {
			below = (first + 1 + first/16) % 16
		}
		return below>>last&1 == 1
	})
}

// dependsOn tells by rows whether f depends on v.
func dependsOn(f api.Func, v int) bool {
	for x := range api.Rows {
		if bit(f, x) != bit(f, x^1<<v) {
			return true
		}
	}
	return false
}

// variablesOf has those of an order that are variables, each where it stands first.
func variablesOf(order [8]int) []int {
	var l []int
	for _, v := range order {
		if v >= 0 && v < api.Vars && !slices.Contains(l, v) {
			l = append(l, v)
		}
	}
	return l
}

// topByRows tells the top from the tables alone.
func topByRows(f api.Func, order [8]int) int {
	for _, v := range variablesOf(order) {
		if dependsOn(f, v) {
			return v
		}
	}
	return -1
}

// sizeByLevels counts the nodes level by level: at each there are those functions that some setting of all variables ahead leaves, and that depend on its own;
// behind the last those that depend on what the order lacks.
func sizeByLevels(l []api.Func, order [8]int) int {
	now, n := map[api.Func]bool{}, 0
	for _, f := range l {
		now[f] = true
	}
	for _, v := range variablesOf(order) {
		next := map[api.Func]bool{}
		for f := range now {
			if dependsOn(f, v) {
				n++
			}
			next[table(func(x int) bool { return bit(f, x&^(1<<v)) })] = true
			next[table(func(x int) bool { return bit(f, x|1<<v) })] = true
		}
		now = next
	}
	delete(now, api.Func{})
	delete(now, tab.Const(true))
	return n + len(now)
}

// P3.1, R2: the plain order, and what is told isn't kept.
func TestPlain(t *testing.T) {
	want := [8]int{0, 1, 2, 3, 4, 5, 6, 7}
	told := Plain()
	if told != want {
		t.Errorf("the plain order is %v", told)
	}
	told[0], told[7] = 9, 9
	if Plain() != want {
		t.Errorf("the plain order has become %v", Plain())
	}
}

// P3.1, P1: in right and wrong orders.
func TestTop(t *testing.T) {
	for i, f := range samples() {
		for _, order := range allOrders() {
			if top := Top(f, order); top != topByRows(f, order) {
				t.Errorf("sample %d: its top in %v is %d", i, order, top)
			}
		}
	}
}

// P3.1: a function of one variable has it as its top, wherever it stands; without it, none.
func TestTopOfOneVariable(t *testing.T) {
	for v := range api.Vars {
		for _, order := range allOrders() {
			want := -1
			if slices.Contains(order[:], v) {
				want = v
			}
			if Top(tab.Var(v), order) != want || Top(tab.Not(tab.Var(v)), order) != want {
				t.Errorf("the top of variable %d in %v is %d", v, order, Top(tab.Var(v), order))
			}
		}
	}
}

// P3.1: of what depends on all the first variable is the top, whatever stands ahead of it; a constant has none.
func TestTopOfAllAndOfNothing(t *testing.T) {
	odd := table(func(x int) bool { return ones(x)%2 == 1 })
	for _, order := range allOrders() {
		want := -1
		if l := variablesOf(order); len(l) > 0 {
			want = l[0]
		}
		if Top(odd, order) != want {
			t.Errorf("the top of the sum of all in %v is %d", order, Top(odd, order))
		}
		if Top(tab.Const(false), order) != -1 || Top(tab.Const(true), order) != -1 {
			t.Errorf("a constant has a top in %v", order)
		}
	}
}

// P3.1: sizes that can be counted by hand.
func TestSizeOfKnown(t *testing.T) {
	x := tab.Var
	both := tab.Xor(x(0), x(1))
	odd := table(func(x int) bool { return ones(x)%2 == 1 })
	every := table(func(x int) bool { return x == 255 })
	for i, c := range []struct {
		l     []api.Func
		order [8]int
		want  int
	}{
		{[]api.Func{both}, Plain(), 3}, // the chapter's example
		{[]api.Func{both}, turned, 3},
		{[]api.Func{both, x(1)}, Plain(), 3},
		{[]api.Func{both, tab.Not(x(1))}, Plain(), 3},
		{[]api.Func{both, x(0)}, Plain(), 4},
		{[]api.Func{both, x(0)}, turned, 3},
		{[]api.Func{x(5), tab.Not(x(5))}, Plain(), 2},
		{[]api.Func{odd}, Plain(), 15},
		{[]api.Func{odd, tab.Not(odd)}, Plain(), 16},
		{[]api.Func{every}, Plain(), 8},
		{[]api.Func{every}, turned, 8},
		{[]api.Func{pairs()}, Plain(), 6},
		{[]api.Func{pairs()}, [8]int{0, 2, 4, 1, 3, 5, 6, 7}, 14},
		{[]api.Func{x(0), x(1), x(2), x(3), x(4), x(5), x(6), x(7)}, Plain(), 8},
	} {
		if n := Size(c.l, c.order); n != c.want {
			t.Errorf("case %d: %d nodes, not %d", i, n, c.want)
		}
	}
}

// P3.1, P1: each sample alone and all of them, in right and wrong orders.
func TestSize(t *testing.T) {
	l := samples()
	for _, order := range allOrders() {
		for i, f := range l {
			if n := Size([]api.Func{f}, order); n != sizeByLevels([]api.Func{f}, order) {
				t.Errorf("sample %d needs %d nodes in %v", i, n, order)
			}
		}
		if n := Size(l, order); n != sizeByLevels(l, order) {
			t.Errorf("all samples need %d nodes in %v", n, order)
		}
	}
}

// P3.1, R3: no functions, and constants, need no nodes in any order.
func TestSizeOfNothing(t *testing.T) {
	no, yes := tab.Const(false), tab.Const(true)
	for _, order := range allOrders() {
		for i, l := range [][]api.Func{nil, {}, samples()[:0], {no}, {yes}, {no, yes, yes, no}} {
			if n := Size(l, order); n != 0 {
				t.Errorf("list %d needs %d nodes in %v", i, n, order)
			}
		}
	}
}

// P3.1: a function that depends on something is a node though the order has no top for it, and nothing comes below it.
func TestSizeWithoutTop(t *testing.T) {
	r := rand.New(rand.NewSource(5))
	f := api.Func{r.Uint64(), r.Uint64(), r.Uint64(), r.Uint64()}
	for _, order := range [][8]int{{8, 8, 8, 8, 8, 8, 8, 8}, {-1, -2, -8, -64, 8, 9, 16, 64}, {-1, -1, -1, -1, -1, -1, -1, -1}} {
		if n := Size([]api.Func{f, tab.Var(0), f, tab.Const(true), tab.Var(7)}, order); n != 3 {
			t.Errorf("three unlike functions are %d nodes in %v, which has no variable", n, order)
		}
	}
	sum := tab.Xor(tab.Var(1), tab.Xor(tab.Var(4), tab.Var(6)))
	for _, c := range []struct {
		order [8]int
		want  int
	}{
		{[8]int{}, 1},
		{[8]int{4, 4, 4, 4, 4, 4, 4, 4}, 3},
		{[8]int{0, 1, 2, 3, 5, 7, 7, 7}, 3},
		{[8]int{0, 6, 9, 1, 6, 1, -1, 8}, 5},
		{[8]int{8, 6, 6, 4, 1, 1, 4, -1}, 5},
	} {
		if n := Size([]api.Func{sum}, c.order); n != c.want {
			t.Errorf("a sum of three needs %d nodes in %v, not %d", n, c.order, c.want)
		}
	}
}

// P3.1: what stands in the order a second time, or is no variable, might as well not stand there.
func TestOnlyFirstPlacesOfVariables(t *testing.T) {
	l := samples()
	for _, order := range allOrders() {
		clean := [8]int{-1, -1, -1, -1, -1, -1, -1, -1}
		copy(clean[:], variablesOf(order))
		if Size(l, order) != Size(l, clean) {
			t.Errorf("%d nodes in %v, and %d in %v", Size(l, order), order, Size(l, clean), clean)
		}
	}
}

// P3.3: more functions need no fewer nodes, and no more than both parts.
func TestMoreFunctions(t *testing.T) {
	l := samples()
	r := rand.New(rand.NewSource(6))
	for _, order := range allOrders() {
		for range 20 {
			r.Shuffle(len(l), func(i, j int) { l[i], l[j] = l[j], l[i] })
			part, both := r.Intn(len(l)+1), r.Intn(len(l)+1)
			part = min(part, both)
			first, second, all := Size(l[:part], order), Size(l[part:both], order), Size(l[:both], order)
			if all < first || all < second || all > first+second {
				t.Fatalf("parts need %d and %d nodes in %v, both %d", first, second, order, all)
			}
		}
	}
}

// P3.3: one function needs 77 at most in an order of all eight, and there is one that does.
func TestLargest(t *testing.T) {
	r := rand.New(rand.NewSource(7))
	for _, order := range rightOrders() {
		f := largest(order)
		if n := Size([]api.Func{f}, order); n != 77 {
			t.Errorf("the largest needs %d nodes in %v", n, order)
		}
		for _, g := range append(samples(), api.Func{r.Uint64(), r.Uint64(), r.Uint64(), r.Uint64()}, tab.Not(f)) {
			if n := Size([]api.Func{g}, order); n > 77 {
				t.Errorf("%x needs %d nodes in %v", g, n, order)
			}
		}
	}
}

// P3.3: how the list is ordered, or repeats, is all one.
func TestOrderAndRepeats(t *testing.T) {
	l := samples()
	r := rand.New(rand.NewSource(8))
	for _, order := range allOrders() {
		want := Size(l, order)
		for range 4 {
			twice := append(slices.Clone(l), l...)
			r.Shuffle(len(twice), func(i, j int) { twice[i], twice[j] = twice[j], twice[i] })
			if n := Size(twice, order); n != want {
				t.Errorf("%d nodes in %v, and %d with each twice", want, order, n)
			}
		}
		if f := l[len(l)-1]; Size([]api.Func{f, f, f}, order) != Size([]api.Func{f}, order) {
			t.Errorf("one function three times isn't one in %v", order)
		}
	}
}

// P3.2, R2: neither what is in the list nor what lies behind it is changed.
func TestNothingHandedInChanges(t *testing.T) {
	l := samples()
	was := slices.Clone(l)
	for _, order := range allOrders() {
		kept := order
		for _, n := range []int{0, 1, len(l) / 2, len(l)} {
			Size(l[:n], order)
			Top(l[len(l)-1], order)
			if !slices.Equal(l, was) || order != kept {
				t.Fatalf("what was handed in has changed by %d functions in %v", n, kept)
			}
		}
	}
}

// R2: nothing is kept from one call to the next, neither the list nor its nodes.
func TestNothingIsKept(t *testing.T) {
	l := []api.Func{largest(Plain()), tab.Var(0)}
	first := Size(l, Plain())
	l[0], l[1] = tab.Var(3), tab.Var(3)
	if n := Size(l, Plain()); n != 1 {
		t.Errorf("one variable needs %d nodes behind others", n)
	}
	if n := Size([]api.Func{largest(Plain()), tab.Var(0)}, Plain()); n != first {
		t.Errorf("what needed %d nodes needs %d", first, n)
	}
}

// P1: many functions at once.
func TestManyFunctions(t *testing.T) {
	var l []api.Func
	for y := range api.Rows {
		l = append(l, table(func(x int) bool { return x == y }), table(func(x int) bool { return x < y }))
	}
	for _, order := range [][8]int{Plain(), turned, {2, 9, 2, -1, 6, 0, 0, 8}} {
		if n := Size(l, order); n != sizeByLevels(l, order) {
			t.Errorf("%d functions need %d nodes in %v", len(l), n, order)
		}
	}
}

// P1, P3.1: no argument makes a call panic or go on, and all is as the tables tell it.
func FuzzAllArguments(f *testing.F) {
	for i, order := range wrongOrders {
		f.Add(order[0], order[1], order[2], order[3], order[4], order[5], order[6], order[7], uint64(i)<<60, ^uint64(0), uint64(0x123456789abcdef0))
	}
	f.Add(3, 1, 4, 0, 5, 2, 6, 7, uint64(0xfedcba9876543210), uint64(1), uint64(0x0f1e2d3c4b5a6978))
	f.Fuzz(func(t *testing.T, p, q, r, s, u, v, w, x int, a, b, c uint64) {
		order := [8]int{p, q, r, s, u, v, w, x}
		l := []api.Func{{a, b, c, a ^ b}, {c, c, a, a}, {b, b, b, b}}
		for _, g := range l {
			if Top(g, order) != topByRows(g, order) {
				t.Errorf("the top of %x in %v is %d", g, order, Top(g, order))
			}
		}
		if Size(l, order) != sizeByLevels(l, order) {
			t.Errorf("%x need %d nodes in %v", l, Size(l, order), order)
		}
	})
}

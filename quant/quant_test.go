package quant_test

import (
	"bower/api"
	"bower/cof"
	"bower/ite"
	"bower/oper"
	"bower/quant"
	"bower/read"
	"bower/store"
	"bower/tab"
	"math"
	"math/rand"
	"slices"
	"testing"
)

// edges are numbers that are no variable's, no node's and no constant's: the nearest, those that wrap onto right ones, the least and the greatest.
var edges = []int{-1, -2, -3, -8, -64, 20002, 20003, 65536, 65538, 1<<31 - 1, 1 << 31, -1 << 31, 1 << 32, 1<<32 + 1, 1<<32 + 2, 1<<32 + 3, -1 << 32, 2 - 1<<32, 1 << 62, -1 << 62, math.MaxInt - 1, math.MaxInt, math.MinInt, math.MinInt + 1, math.MinInt + 2, math.MinInt + 3, math.MinInt + 4}

// noVars are numbers that are no variable's, though there are nodes with some of them.
var noVars = append([]int{8, 9, 10, 15, 16, 63, 64, 255, 256}, edges...)

var plain = [8]int{0, 1, 2, 3, 4, 5, 6, 7}

// call is one of the chapter's calls, the chapter's words of it, and its value in a row. Each is asked of a second node, which Compose alone takes.
type call struct {
	name  string
	ask   func(s *store.Store, c *ite.Cache, f, v, g int) (int, error)
	words func(s *store.Store, f, v, g int) (int, error)
	value func(f, g func(x int) bool, v, x int) bool
}

func restrict(b bool) call {
	return call{map[bool]string{false: "Restrict by 0", true: "Restrict by 1"}[b],
		func(s *store.Store, c *ite.Cache, f, v, g int) (int, error) { return quant.Restrict(s, f, v, b) },
		func(s *store.Store, f, v, g int) (int, error) { return restrictWords(s, f, v, b) },
		func(f, g func(x int) bool, v, x int) bool { return f(with(x, v, b)) }}
}

func compose() call {
	return call{"Compose", quant.Compose, composeWords,
		func(f, g func(x int) bool, v, x int) bool { return f(with(x, v, g(x))) }}
}

func exists() call {
	return call{"Exists",
		func(s *store.Store, c *ite.Cache, f, v, g int) (int, error) { return quant.Exists(s, c, f, v) },
		func(s *store.Store, f, v, g int) (int, error) { return bothWords(s, oper.Or, f, v) },
		func(f, g func(x int) bool, v, x int) bool { return f(with(x, v, false)) || f(with(x, v, true)) }}
}

func forall() call {
	return call{"Forall",
		func(s *store.Store, c *ite.Cache, f, v, g int) (int, error) { return quant.Forall(s, c, f, v) },
		func(s *store.Store, f, v, g int) (int, error) { return bothWords(s, oper.And, f, v) },
		func(f, g func(x int) bool, v, x int) bool { return f(with(x, v, false)) && f(with(x, v, true)) }}
}

// calls are all, Restrict by each value; ofOne are those of which the second node is nothing.
func ofOne() []call { return []call{restrict(false), restrict(true), exists(), forall()} }
func calls() []call { return append(ofOne(), compose()) }

// restrictWords is ErrArg, if f is neither a constant nor there, or v is no variable; else the node of layer 2's Cof, made from below.
func restrictWords(s *store.Store, f, v int, b bool) (int, error) {
	if !there(s, f) || v < 0 || v > 7 {
		return 0, api.ErrArg
	}
	return read.Build(s, table(func(x int) bool { return walk(s, f, with(x, v, b)) }))
}

// composeWords is ErrArg also if g is neither a constant nor there; else first Restrict by 0, then by 1, then Ite(g, that by 1, that by 0).
func composeWords(s *store.Store, f, v, g int) (int, error) {
	if !there(s, g) {
		return 0, api.ErrArg
	}
	return bothWords(s, func(s *store.Store, c *ite.Cache, by0, by1 int) (int, error) {
		return c.Ite(s, g, by1, by0)
	}, f, v)
}

// bothWords is first Restrict by 0, then by 1, then something of that by 0 and that by 1.
func bothWords(s *store.Store, tell func(s *store.Store, c *ite.Cache, by0, by1 int) (int, error), f, v int) (int, error) {
	by0, err := restrictWords(s, f, v, false)
	if err != nil {
		return 0, err
	}
	by1, err := restrictWords(s, f, v, true)
	if err != nil {
		return 0, err
	}
	return tell(s, ite.New(), by0, by1)
}

// with is row x with v set to b; if v is no variable, the row.
func with(x, v int, b bool) int {
	switch {
	case v < 0 || v > 7:
		return x
	case b:
		return x | 1<<v
	}
	return x &^ (1 << v)
}

// there tells whether n is a constant or among the numbers of the nodes.
func there(s *store.Store, n int) bool {
	return n == 0 || n == 1 || slices.Contains(s.All(), n)
}

// table lays a function out row by row, as chapter 1 does.
func table(value func(x int) bool) api.Func {
	var f api.Func
	for x := range api.Rows {
		if value(x) {
			f[x/64] |= 1 << (x % 64)
		}
	}
	return f
}

// walk is chapter 7's words of a node's function: in a row Hi's value, if its variable's is 1, else Lo's.
func walk(s *store.Store, n, x int) bool {
	for {
		is, ok := s.Node(n)
		switch {
		case !ok:
			return n == 1
		case x>>is.Var&1 == 1:
			n = is.Hi
		default:
			n = is.Lo
		}
	}
}

// walked is walk of all rows.
func walked(s *store.Store, n int) api.Func {
	return table(func(x int) bool { return walk(s, n, x) })
}

// hangs tells whether n's value is another with v set to 0 and to 1 in some row.
func hangs(s *store.Store, n, v int) bool {
	for x := range api.Rows {
		if walk(s, n, with(x, v, false)) != walk(s, n, with(x, v, true)) {
			return true
		}
	}
	return false
}

// inOrder is a store of so many, without nodes, whose levels were exchanged until the order is the one that is asked.
func inOrder(t *testing.T, most int, order [8]int) *store.Store {
	t.Helper()
	s := store.New(most)
	for l, v := range order {
		now := s.Order()
		for at := slices.Index(now[:], v); at > l; at-- {
			if err := s.Swap(at - 1); err != nil {
				t.Fatal(err)
			}
		}
	}
	if s.Order() != order {
		t.Fatalf("the order is %v, not %v", s.Order(), order)
	}
	return s
}

// orders are the plain one, it turned, two that part neighbours, and some with no shape.
func orders() [][8]int {
	l := [][8]int{plain, {7, 6, 5, 4, 3, 2, 1, 0}, {0, 2, 4, 6, 1, 3, 5, 7}, {6, 0, 7, 1, 5, 2, 4, 3}}
	r := rand.New(rand.NewSource(41))
	for range 4 {
		l = append(l, [8]int(r.Perm(api.Vars)))
	}
	return l
}

// shapeless is any function.
func shapeless(r *rand.Rand) api.Func {
	return api.Func{r.Uint64(), r.Uint64(), r.Uint64(), r.Uint64()}
}

// simple is a function of some variables alone.
func simple(r *rand.Rand) api.Func {
	f := shapeless(r)
	for range 3 + r.Intn(5) {
		f = cof.Cof(f, r.Intn(8), r.Intn(2) == 1)
	}
	return f
}

// odd is the sum of all variables.
func odd() api.Func {
	f := tab.Const(false)
	for v := range api.Vars {
		f = tab.Xor(f, tab.Var(v))
	}
	return f
}

// couples are two functions each: constants, variables and their opposites, some that are the same or each other's opposites, simple ones, some with no shape.
func couples() [][2]api.Func {
	r := rand.New(rand.NewSource(42))
	of := func() api.Func {
		v := r.Intn(8)
		switch r.Intn(8) {
		case 0:
			return tab.Const(v&1 == 1)
		case 1:
			return tab.Var(v)
		case 2:
			return tab.Not(tab.Var(v))
		case 3:
			return tab.And(tab.Var(v), tab.Var(r.Intn(8)))
		case 4:
			return shapeless(r)
		}
		return simple(r)
	}
	f, g := shapeless(r), shapeless(r)
	l := [][2]api.Func{{tab.Var(0), tab.Var(1)}, {odd(), tab.Var(7)}, {tab.Var(0), odd()}, {f, f}, {f, tab.Not(f)}, {f, tab.Const(true)}, {g, tab.Const(false)}, {g, simple(r)}}
	for range 24 {
		l = append(l, [2]api.Func{of(), of()})
	}
	return l
}

// view is all that can be seen of a store.
type view struct {
	order      [8]int
	live, room int
	nums       []int
	nodes      []api.Node
}

func look(s *store.Store) view {
	w := view{order: s.Order(), live: s.Live(), room: s.Room(), nums: s.All()}
	for _, n := range w.nums {
		is, _ := s.Node(n)
		w.nodes = append(w.nodes, is)
	}
	return w
}

func (w view) is(v view) bool {
	return w.order == v.order && w.live == v.live && w.room == v.room && slices.Equal(w.nums, v.nums) && slices.Equal(w.nodes, v.nodes)
}

// twins are two stores to which the same is done: one is asked by the calls, the other by the chapter's words, from tables, with caches that keep nothing.
// So what is made, in which order, and what can't be seen of a store, the turn of the numbers that were given back, is held by the numbers.
type twins struct{ s, other *store.Store }

func newTwins(t *testing.T, most int, order [8]int) twins {
	t.Helper()
	return twins{inOrder(t, most, order), inOrder(t, most, order)}
}

// same holds all that can be seen of one against the other.
func (w twins) same(t *testing.T) {
	t.Helper()
	if is, want := look(w.s), look(w.other); !is.is(want) {
		t.Fatalf("the store is %v, not %v", is, want)
	}
}

// valued is the function that a call's answer is to have, row by row.
func (w twins) valued(k call, f, v, g int) api.Func {
	of := func(n int) func(x int) bool { return func(x int) bool { return walk(w.s, n, x) } }
	return table(func(x int) bool { return k.value(of(f), of(g), v, x) })
}

// ask holds what a call tells, and makes, against the chapter's words, and the function against the values in the rows.
func (w twins) ask(t *testing.T, k call, c *ite.Cache, f, v, g int) (int, error) {
	t.Helper()
	want, wantErr := k.words(w.other, f, v, g)
	n, err := k.ask(w.s, c, f, v, g)
	if n != want || err != wantErr || err != nil && n != 0 {
		t.Fatalf("%s of %d, %d and %d tells %d, %v, not %d, %v", k.name, f, v, g, n, err, want, wantErr)
	}
	w.same(t)
	if is := w.valued(k, f, v, g); err == nil && walked(w.s, n) != is {
		t.Fatalf("what %s of %d, %d and %d tells, %d, is %x, not %x", k.name, f, v, g, n, walked(w.s, n), is)
	}
	return n, err
}

// askIs holds ask against what is known of it.
func (w twins) askIs(t *testing.T, k call, c *ite.Cache, f, v, g, want int, wantErr error) {
	t.Helper()
	if n, err := w.ask(t, k, c, f, v, g); n != want || err != wantErr {
		t.Fatalf("%s of %d, %d and %d tells %d, %v, not %d, %v", k.name, f, v, g, n, err, want, wantErr)
	}
}

// askStays holds askIs, and that nothing happens by it.
func (w twins) askStays(t *testing.T, k call, c *ite.Cache, f, v, g, want int, wantErr error) {
	t.Helper()
	was := look(w.s)
	w.askIs(t, k, c, f, v, g, want, wantErr)
	if !look(w.s).is(was) {
		t.Fatalf("by %s of %d, %d and %d the store changes", k.name, f, v, g)
	}
}

// must is ask where there is room.
func (w twins) must(t *testing.T, k call, c *ite.Cache, f, v, g int) int {
	t.Helper()
	n, err := w.ask(t, k, c, f, v, g)
	if err != nil {
		t.Fatalf("%s of %d, %d and %d tells %v", k.name, f, v, g, err)
	}
	return n
}

// both asks both stores the same, and tells what the first tells.
func (w twins) both(t *testing.T, ask func(s *store.Store) (int, error)) (int, error) {
	t.Helper()
	n, err := ask(w.s)
	want, wantErr := ask(w.other)
	if n != want || err != wantErr {
		t.Fatalf("one store tells %d, %v, the other %d, %v", n, err, want, wantErr)
	}
	return n, err
}

// mustBoth is both where no error may be.
func (w twins) mustBoth(t *testing.T, ask func(s *store.Store) (int, error)) int {
	t.Helper()
	n, err := w.both(t, ask)
	if err != nil {
		t.Fatal(err)
	}
	return n
}

func (w twins) mk(t *testing.T, v, lo, hi int) int {
	t.Helper()
	return w.mustBoth(t, func(s *store.Store) (int, error) { return s.Mk(v, lo, hi) })
}

func (w twins) build(t *testing.T, f api.Func) int {
	t.Helper()
	return w.mustBoth(t, func(s *store.Store) (int, error) { return read.Build(s, f) })
}

func (w twins) free(t *testing.T, n int) error {
	t.Helper()
	_, err := w.both(t, func(s *store.Store) (int, error) { return 0, s.Free(n) })
	return err
}

func (w twins) swap(t *testing.T, l int) {
	t.Helper()
	w.both(t, func(s *store.Store) (int, error) { return 0, s.Swap(l) })
}

// fill makes nodes with no shape until there is room for so many.
func (w twins) fill(t *testing.T, r *rand.Rand, room int) {
	t.Helper()
	w.fillBut(t, r, room, nil)
}

// fillBut is fill of nodes whose functions are none of some.
func (w twins) fillBut(t *testing.T, r *rand.Rand, room int, but map[api.Func]bool) {
	t.Helper()
	k := w.known()
	var l []api.Func
	for _, n := range k {
		l = append(l, read.Table(w.s, n))
	}
	for w.s.Room() > room {
		v, lo, hi := r.Intn(8), r.Intn(len(k)), r.Intn(len(k))
		f := tab.Ite(tab.Var(v), l[hi], l[lo])
		if but[f] {
			continue
		}
		was := w.s.Live()
		if n, _ := w.both(t, func(s *store.Store) (int, error) { return s.Mk(v, k[lo], k[hi]) }); w.s.Live() > was {
			k, l = append(k, n), append(l, f)
		}
	}
}

// filled are stores of so many, with room for so many more, of nodes with no shape.
func filled(t *testing.T, seed int64, most, room int) twins {
	t.Helper()
	r := rand.New(rand.NewSource(seed))
	w := newTwins(t, most, [8]int(r.Perm(api.Vars)))
	w.fill(t, r, room)
	w.same(t)
	return w
}

// stores are of many kinds: without room, without nodes, with some, with no room left, with room for one, with numbers given back.
func stores(t *testing.T) []twins {
	t.Helper()
	l := []twins{newTwins(t, 0, plain), newTwins(t, 1, plain), newTwins(t, 300, orders()[3])}
	l = append(l, filled(t, 51, 600, 540), filled(t, 52, 40, 0), filled(t, 53, 1, 0), filled(t, 54, 41, 1))
	w := filled(t, 55, 500, 430)
	w.thin(t)
	return append(l, w)
}

// thin frees some of what no other has.
func (w twins) thin(t *testing.T) {
	t.Helper()
	for _, n := range w.s.All() {
		if n%3 != 0 {
			w.free(t, n)
		}
	}
}

// known are the constants and the numbers of all nodes.
func (w twins) known() []int { return append([]int{0, 1}, w.s.All()...) }

// some are known, the constants and a few nodes with no shape in their numbers, the last one too.
func (w twins) some(r *rand.Rand) []int {
	k := w.known()
	l := []int{0, 1, k[len(k)-1]}
	for range 5 {
		l = append(l, k[r.Intn(len(k))])
	}
	return l
}

// unknown are numbers that are neither a constant nor there, those that were freed too.
func (w twins) unknown() []int {
	l := slices.Clone(edges)
	for n := 2; n < 610; n++ {
		if _, ok := w.s.Node(n); !ok && (n < 120 || n%50 == 0) {
			l = append(l, n)
		}
	}
	return append(l, 20000, 20001)
}

// kinds are four caches, of which three are asked ahead and behind of exchanges of levels: one keeps all that came of it, one was flushed then, one was flushed between; one is new.
func (w twins) kinds(t *testing.T, r *rand.Rand) []*ite.Cache {
	t.Helper()
	kept, flushed, between := ite.New(), ite.New(), ite.New()
	for i := range 10 {
		k, v := w.known(), r.Intn(8)
		for _, c := range []*ite.Cache{kept, flushed, between} {
			w.ask(t, calls()[r.Intn(5)], c, k[r.Intn(len(k))], v, k[r.Intn(len(k))])
		}
		w.swap(t, r.Intn(7))
		if i == 6 {
			between.Flush()
		}
	}
	flushed.Flush()
	return []*ite.Cache{kept, flushed, between, ite.New()}
}

// inAll does something to stores of many kinds, as they are, and behind exchanges of levels, with caches of many kinds.
func inAll(t *testing.T, seed int64, do func(r *rand.Rand, w twins, c *ite.Cache)) {
	t.Helper()
	for i, w := range stores(t) {
		r := rand.New(rand.NewSource(seed + int64(i)))
		do(r, w, ite.New())
		for _, c := range w.kinds(t, r) {
			do(r, w, c)
		}
	}
}

// nodesAre holds all nodes that there are against what they should be.
func (w twins) nodesAre(t *testing.T, want []api.Node) {
	t.Helper()
	if is := look(w.s).nodes; !slices.Equal(is, want) {
		t.Fatalf("the nodes are %v, not %v", is, want)
	}
}

// byHand is a store of so many in which 6 is f, of variable 0: where that is 1 it is 4, p, which is variable 4 where variable 2 is 1, else variable 3; where it is 0 it is 5, which is p where variable 1 is 1. Variable 5 is 7, g.
func byHand(t *testing.T, most int) (w twins, f, g int) {
	t.Helper()
	w = newTwins(t, most, plain)
	for n, is := range hands {
		if m := w.mk(t, is.Var, is.Lo, is.Hi); m != n+2 {
			t.Fatalf("%v is %d, not %d", is, m, n+2)
		}
	}
	return w, 6, 7
}

// hands are the nodes of byHand.
var hands = []api.Node{{Var: 3, Lo: 0, Hi: 1}, {Var: 4, Lo: 0, Hi: 1}, {Var: 2, Lo: 2, Hi: 3}, {Var: 1, Lo: 0, Hi: 4}, {Var: 0, Lo: 5, Hi: 4}, {Var: 5, Lo: 0, Hi: 1}}

// madeOf tells what each call makes of byHand's f, with variable 2, and g: Restrict by 0 and then by 1 make two each, the others these first.
func madeOf(name string) []api.Node {
	by0 := []api.Node{{Var: 1, Lo: 0, Hi: 2}, {Var: 0, Lo: 8, Hi: 2}}
	both := append(slices.Clone(by0), []api.Node{{Var: 1, Lo: 0, Hi: 3}, {Var: 0, Lo: 10, Hi: 3}}...)
	switch name {
	case "Restrict by 0":
		return by0
	case "Restrict by 1":
		return []api.Node{{Var: 1, Lo: 0, Hi: 3}, {Var: 0, Lo: 8, Hi: 3}}
	case "Exists":
		return append(both, []api.Node{{Var: 3, Lo: 3, Hi: 1}, {Var: 1, Lo: 0, Hi: 12}, {Var: 0, Lo: 13, Hi: 12}}...)
	case "Forall":
		return append(both, []api.Node{{Var: 3, Lo: 0, Hi: 3}, {Var: 1, Lo: 0, Hi: 12}, {Var: 0, Lo: 13, Hi: 12}}...)
	}
	return append(both, []api.Node{{Var: 4, Lo: 0, Hi: 7}, {Var: 5, Lo: 1, Hi: 0}, {Var: 4, Lo: 13, Hi: 1}, {Var: 3, Lo: 12, Hi: 14}, {Var: 1, Lo: 0, Hi: 15}, {Var: 0, Lo: 16, Hi: 15}}...)
}

// P11.1, P11.2: the chapter's example, for which there is no room to be.
func TestExample(t *testing.T) {
	w, c := newTwins(t, 2, plain), ite.New()
	x1 := w.mk(t, 1, 0, 1)
	n := w.mk(t, 0, 0, x1)
	w.askStays(t, exists(), c, n, 0, 0, x1, nil)
	w.askStays(t, forall(), c, n, 0, 0, 0, nil)
	w.askStays(t, restrict(false), c, n, 0, 0, 0, nil)
	w.askStays(t, restrict(true), c, n, 0, 0, x1, nil)
	w.askStays(t, compose(), c, n, 0, 1, x1, nil)
	w.askStays(t, exists(), c, n, 1, 0, 0, api.ErrFull)
}

// P11.1, P11.2: what each makes, by hand, from below, Restrict by 0 ahead of that by 1, and both ahead of the answer; where there is no room what was made by then stays, and nothing else is made, asked again too.
func TestMakesFromBelow(t *testing.T) {
	for _, k := range calls() {
		made := madeOf(k.name)
		for room := range len(made) + 2 {
			w, f, g := byHand(t, len(hands)+room)
			c := ite.New()
			for i := range 4 {
				if room < len(made) {
					w.askIs(t, k, c, f, 2, g, 0, api.ErrFull)
				} else {
					w.askIs(t, k, c, f, 2, g, 7+len(made), nil)
				}
				w.nodesAre(t, append(slices.Clone(hands), made[:min(room, len(made))]...))
				if i == 2 {
					c.Flush()
				}
			}
		}
	}
}

// P11.2: what Restrict makes by 0 and by 1 stays, also where the answer is above neither: by a constant Compose tells one of the two, and there must be room for the other, too.
func TestBothAreMade(t *testing.T) {
	for g := range 2 {
		made := madeOf("Exists")[:4]
		for room := range 6 {
			w, f, _ := byHand(t, len(hands)+room)
			c := ite.New()
			for range 2 {
				if room < 4 {
					w.askIs(t, compose(), c, f, 2, g, 0, api.ErrFull)
				} else {
					w.askIs(t, compose(), c, f, 2, g, []int{9, 11}[g], nil)
				}
				w.nodesAre(t, append(slices.Clone(hands), made[:min(room, 4)]...))
				c.Flush()
			}
		}
	}
}

// P11.1, P11.2: a function that hangs on its first variable no more by Restrict is made of what is below alone; where it is a constant, or there, nothing happens, be there room or none.
func TestTopGoesToo(t *testing.T) {
	for room := range 3 {
		w := newTwins(t, 6+room, plain)
		x2 := w.mk(t, 2, 0, 1)
		not2 := w.mk(t, 2, 1, 0)
		low, high := w.mk(t, 1, 0, x2), w.mk(t, 1, not2, x2)
		f := w.mk(t, 0, low, high)
		g := w.mk(t, 0, x2, not2)
		c := ite.New()
		for range 2 {
			w.askStays(t, restrict(true), c, f, 1, g, x2, nil)
			w.askStays(t, exists(), c, g, 0, g, 1, nil)
			w.askStays(t, forall(), c, g, 0, g, 0, nil)
			w.askStays(t, exists(), c, high, 1, g, 1, nil)
			w.askStays(t, forall(), c, high, 1, g, 0, nil)
			w.askStays(t, compose(), c, high, 1, x2, 1, nil)
			w.askStays(t, compose(), c, high, 1, not2, 0, nil)
		}
		for _, k := range []call{restrict(false), exists(), forall(), compose()} {
			if room == 0 {
				w.askStays(t, k, c, f, 1, f, 0, api.ErrFull)
			} else {
				w.ask(t, k, c, f, 1, f)
			}
		}
	}
}

// P11.1, P11.2: of constants each tells the same constant, by each variable and each node, be there room or none, and nothing happens.
func TestConstants(t *testing.T) {
	inAll(t, 60, func(r *rand.Rand, w twins, c *ite.Cache) {
		for f := range 2 {
			for v := range api.Vars {
				for _, g := range w.some(r) {
					for _, k := range calls() {
						w.askStays(t, k, c, f, v, g, f, nil)
					}
				}
			}
		}
	})
}

// P11.1, P11.2: of a node by its own variable Restrict tells Lo and Hi, and nothing happens; the others make what the chapter's words make, and by a constant Compose tells one of the two.
func TestByItsOwnVariable(t *testing.T) {
	inAll(t, 70, func(r *rand.Rand, w twins, c *ite.Cache) {
		for _, n := range w.s.All() {
			is, _ := w.s.Node(n)
			w.askStays(t, restrict(false), c, n, is.Var, n, is.Lo, nil)
			w.askStays(t, restrict(true), c, n, is.Var, n, is.Hi, nil)
			w.askStays(t, compose(), c, n, is.Var, 0, is.Lo, nil)
			w.askStays(t, compose(), c, n, is.Var, 1, is.Hi, nil)
			if n%5 == 0 {
				w.ask(t, exists(), c, n, is.Var, n)
				w.ask(t, forall(), c, n, is.Var, n)
				w.ask(t, compose(), c, n, is.Var, n)
			}
		}
	})
}

// P11.1 to P11.3: of a node that doesn't depend on the variable, be that ahead of its own in the order, or behind, each tells the node, by each other node too, be there room or none, and nothing happens.
func TestByWhatItDoesNotDependOn(t *testing.T) {
	ahead, behind := 0, 0
	inAll(t, 80, func(r *rand.Rand, w twins, c *ite.Cache) {
		order := w.s.Order()
		for _, n := range w.some(r) {
			is, ok := w.s.Node(n)
			for l, v := range order {
				if hangs(w.s, n, v) {
					continue
				}
				if ok && l < slices.Index(order[:], is.Var) {
					ahead++
				} else if ok {
					behind++
				}
				g := w.some(r)[r.Intn(8)]
				for _, k := range calls() {
					w.askStays(t, k, c, n, v, g, n, nil)
				}
			}
		}
	})
	if ahead < 100 || behind < 100 {
		t.Fatalf("%d variables are ahead, and %d behind", ahead, behind)
	}
}

// P11.1, P11.2: whatever is asked, each tells what the chapter's words tell, with the same nodes made in the same order; asked again nothing happens.
func TestAsTheWords(t *testing.T) {
	inAll(t, 100, func(r *rand.Rand, w twins, c *ite.Cache) {
		for range 3 {
			for _, f := range w.some(r) {
				v, g, k := r.Intn(8), w.known()[r.Intn(w.s.Live()+2)], calls()[r.Intn(5)]
				n, err := w.ask(t, k, c, f, v, g)
				w.askStays(t, k, c, f, v, g, n, err)
				w.askStays(t, k, ite.New(), f, v, g, n, err)
			}
		}
	})
}

// P11.1 to P11.3: each reads as layer 2's, in any order of levels, by each variable, with caches of all kinds.
func TestAsLayer2(t *testing.T) {
	r := rand.New(rand.NewSource(43))
	for i, l := range couples() {
		w := newTwins(t, 6000, orders()[i%8])
		f, g := w.build(t, l[0]), w.build(t, l[1])
		for _, c := range w.kinds(t, r) {
			for v := range api.Vars {
				want := map[string]api.Func{
					"Restrict by 0": cof.Cof(l[0], v, false),
					"Restrict by 1": cof.Cof(l[0], v, true),
					"Exists":        cof.Exists(l[0], v),
					"Forall":        cof.Forall(l[0], v),
					"Compose":       cof.Compose(l[0], v, l[1]),
				}
				for _, k := range calls() {
					n := w.must(t, k, c, f, v, g)
					if is := read.Table(w.s, n); is != want[k.name] {
						t.Fatalf("%s of %x, %d and %x is %x, not %x", k.name, l[0], v, l[1], is, want[k.name])
					}
					if b := w.build(t, want[k.name]); b != n {
						t.Fatalf("%s of %x, %d and %x is %d, not %d", k.name, l[0], v, l[1], n, b)
					}
				}
			}
		}
	}
}

// P11.3: none that is reached from what Restrict, Exists and Forall tell is of the variable, so that by it again each tells the same, and nothing happens; nor is it from what Compose tells by a node that doesn't depend on it.
func TestNoneIsOfIt(t *testing.T) {
	met := 0
	inAll(t, 110, func(r *rand.Rand, w twins, c *ite.Cache) {
		for _, f := range w.some(r) {
			v, g := r.Intn(8), w.known()[r.Intn(w.s.Live()+2)]
			for _, k := range calls() {
				n, err := w.ask(t, k, c, f, v, g)
				if err != nil || k.name == "Compose" && hangs(w.s, g, v) {
					continue
				}
				for _, m := range read.Reach(w.s, []int{n}) {
					met++
					if is, _ := w.s.Node(m); is.Var == v {
						t.Fatalf("%s of %d, %d and %d reaches %d, which is %v", k.name, f, v, g, m, is)
					}
				}
				for _, k := range calls() {
					w.askStays(t, k, c, n, v, w.some(r)[r.Intn(8)], n, nil)
				}
			}
		}
	})
	if met < 100 {
		t.Fatalf("%d are reached", met)
	}
}

// P11.2, P11.3: Compose by the variable's own node is the node, wherever that variable stands in the order; without room for both of Restrict it is ErrFull, with 0.
func TestComposeByItsOwnNode(t *testing.T) {
	inAll(t, 120, func(r *rand.Rand, w twins, c *ite.Cache) {
		for _, f := range w.some(r) {
			v := r.Intn(8)
			own, err := w.both(t, func(s *store.Store) (int, error) { return s.Mk(v, 0, 1) })
			if err != nil {
				continue
			}
			if n, err := w.ask(t, compose(), c, f, v, own); err == nil && n != f || err != nil && err != api.ErrFull {
				t.Fatalf("Compose of %d, %d by its own node tells %d, %v", f, v, n, err)
			}
		}
	})
	r := rand.New(rand.NewSource(44))
	for i, l := range couples() {
		w := newTwins(t, 4000, orders()[i%8])
		f := w.build(t, l[0])
		for _, c := range w.kinds(t, r) {
			for v := range api.Vars {
				w.askIs(t, compose(), c, f, v, w.mk(t, v, 0, 1), f, nil)
			}
		}
	}
}

// P11.2, P11.3: Exists and Forall change places by Not, and Compose by a node and by not of it takes both apart.
func TestChangePlacesByNot(t *testing.T) {
	r := rand.New(rand.NewSource(45))
	for i, l := range couples()[:12] {
		w := newTwins(t, 6000, orders()[i%8])
		f, g := w.build(t, l[0]), w.build(t, l[1])
		notF, notG := w.build(t, tab.Not(l[0])), w.build(t, tab.Not(l[1]))
		for _, c := range w.kinds(t, r) {
			not := func(n int) int {
				return w.mustBoth(t, func(s *store.Store) (int, error) { return oper.Not(s, ite.New(), n) })
			}
			for v := range api.Vars {
				to := func(k call, f, g int) int { return w.must(t, k, c, f, v, g) }
				own := w.mk(t, v, 0, 1)
				for _, p := range [][2]int{
					{not(to(exists(), f, g)), to(forall(), notF, g)},
					{not(to(forall(), f, g)), to(exists(), notF, g)},
					{not(to(compose(), f, g)), to(compose(), notF, g)},
					{to(compose(), f, notG), to(compose(), to(compose(), f, not(own)), g)},
					{to(compose(), f, 0), to(restrict(false), f, g)},
					{to(compose(), f, 1), to(restrict(true), f, g)},
					{to(compose(), own, g), g},
					{to(exists(), own, g), 1},
					{to(forall(), own, g), 0},
				} {
					if p[0] != p[1] {
						t.Fatalf("of %d, %d and %d: %d isn't %d", f, v, g, p[0], p[1])
					}
				}
			}
		}
	}
}

// wrong holds that each of some calls tells ErrArg, with 0.
func (w twins) wrong(t *testing.T, l []call, c *ite.Cache, f, v, g int) {
	t.Helper()
	for _, k := range l {
		if n, err := k.ask(w.s, c, f, v, g); n != 0 || err != api.ErrArg {
			t.Fatalf("%s of %d, %d and %d tells %d, %v", k.name, f, v, g, n, err)
		}
	}
}

// P11.1, R1, R3, P1: what is set, what it is set to, or both are neither constants nor there, also where the answer wouldn't hang on it: ErrArg, with 0, and nothing is made.
func TestWrongNodes(t *testing.T) {
	inAll(t, 130, func(r *rand.Rand, w twins, c *ite.Cache) {
		l, was := w.some(r), look(w.s)
		for i, bad := range w.unknown() {
			other := edges[r.Intn(len(edges))]
			for v := range api.Vars {
				for _, n := range []int{l[i%len(l)], 0, 1, bad, other} {
					w.wrong(t, calls(), c, bad, v, n)
					w.wrong(t, []call{compose()}, c, n, v, bad)
				}
			}
		}
		if !look(w.s).is(was) {
			t.Fatalf("the store is %v, not %v", look(w.s), was)
		}
		w.ask(t, compose(), c, l[2], 3, l[3])
	})
}

// P11.1, R1, R3, P1: what is no variable is ErrArg, with 0, of each node, of the constants too, and nothing is made; so it is with nodes that aren't there.
func TestNoVariables(t *testing.T) {
	inAll(t, 140, func(r *rand.Rand, w twins, c *ite.Cache) {
		l, was := w.some(r), look(w.s)
		bad := w.unknown()
		for i, v := range noVars {
			for _, n := range l {
				w.wrong(t, calls(), c, n, v, l[i%len(l)])
			}
			for range 20 {
				n, m := bad[r.Intn(len(bad))], bad[r.Intn(len(bad))]
				w.wrong(t, calls(), c, n, v, m)
				w.wrong(t, calls(), c, n, v, l[i%len(l)])
				w.wrong(t, calls(), c, l[i%len(l)], v, m)
			}
		}
		if !look(w.s).is(was) {
			t.Fatalf("the store is %v, not %v", look(w.s), was)
		}
		w.ask(t, exists(), c, l[2], 3, l[3])
	})
}

// P11.1, R1: ErrArg is told ahead of all else, with nothing made: where there is room for all that would be made else, for a part of it, and for none; behind that it is made as if nothing had been asked.
func TestWrongArgumentsMakeNothing(t *testing.T) {
	for room := range 12 {
		for _, bad := range append([]int{len(hands) + room + 2, 20001}, edges...) {
			w, f, g := byHand(t, len(hands)+room)
			c := ite.New()
			for range 2 {
				w.askStays(t, compose(), c, f, 2, bad, 0, api.ErrArg)
				w.askStays(t, compose(), c, bad, 2, g, 0, api.ErrArg)
				w.askStays(t, compose(), c, bad, 2, bad, 0, api.ErrArg)
				for _, v := range []int{-1, 8, bad} {
					for _, k := range calls() {
						if v < 0 || v > 7 {
							w.askStays(t, k, c, f, v, g, 0, api.ErrArg)
						}
					}
				}
			}
			w.nodesAre(t, hands)
			if n, err := w.ask(t, compose(), c, f, 2, g); (err == nil) != (room >= 10) {
				t.Fatalf("with room for %d Compose tells %d, %v", room, n, err)
			}
		}
	}
}

// P11.1, R3: what was freed isn't there any more, neither what is set nor what it is set to; taken anew it is what it is then.
func TestWhatWasFreed(t *testing.T) {
	for _, k := range calls() {
		w, f, g := byHand(t, 60)
		c := ite.New()
		n := w.mk(t, 6, 0, 1)
		for v := range api.Vars {
			for _, m := range []int{f, g, n} {
				w.ask(t, k, c, n, v, m)
				w.ask(t, k, c, m, v, n)
			}
		}
		for range api.Vars {
			for m := 61; m >= n; m-- {
				w.free(t, m)
			}
		}
		w.nodesAre(t, hands)
		c.Flush()
		for v := range api.Vars {
			for _, m := range []int{f, g, n, 0, 1} {
				w.askStays(t, k, c, n, v, m, 0, api.ErrArg)
				if k.name == "Compose" {
					w.askStays(t, k, c, m, v, n, 0, api.ErrArg)
				}
			}
		}
		for l := w.s.Live(); w.mk(t, 7-w.s.Live()%2, w.s.Live()/2%2, 1-w.s.Live()/2%2) != n; {
			if w.s.Live() > l+4 {
				t.Fatalf("%d isn't taken anew", n)
			}
		}
		for v := range api.Vars {
			for _, m := range []int{f, g, n} {
				w.must(t, k, c, n, v, m)
				w.must(t, k, c, m, v, n)
			}
		}
	}
}

// prepared are a store in some order, and the nodes of two functions in it, behind exchanges of levels, with a cache that was asked of other nodes ahead of these, and keeps what came of it, or was flushed, or is new.
func prepared(t *testing.T, i, way int, l [2]api.Func) (w twins, c *ite.Cache, f, g int) {
	t.Helper()
	r := rand.New(rand.NewSource(int64(i)))
	w = newTwins(t, 700, orders()[i%8])
	f, g = w.build(t, l[0]), w.build(t, l[1])
	c = ite.New()
	for range 5 {
		k := w.known()
		if n, m := k[r.Intn(len(k))], k[r.Intn(len(k))]; n != f {
			w.ask(t, calls()[r.Intn(5)], c, n, r.Intn(8), m)
		}
		w.swap(t, r.Intn(7))
	}
	switch way {
	case 1:
		c.Flush()
	case 2:
		c = ite.New()
	}
	return w, c, f, g
}

// P11.1, P11.2: with room for just as many nodes as it needs a call makes them, and with room for one less, for fewer, or for none, it tells ErrFull, with 0; then what was made stays, and nothing else.
func TestWithLittleRoom(t *testing.T) {
	many := map[string]int{}
	for i, l := range couples() {
		for j, k := range calls() {
			way, v := (i+j)%3, (3*i+j)%8
			w, c, f, g := prepared(t, i, way, l)
			was := w.s.Live()
			w.must(t, k, c, f, v, g)
			needs := w.s.Live() - was
			if needs > 1 {
				many[k.name]++
			}
			made := map[api.Func]bool{}
			for _, n := range w.s.All() {
				made[read.Table(w.s, n)] = true
			}
			for _, room := range slices.Compact([]int{needs, max(needs-1, 0), needs / 2, 0}) {
				w, c, f, g := prepared(t, i, way, l)
				w.fillBut(t, rand.New(rand.NewSource(46)), room, made)
				n, err := w.ask(t, k, c, f, v, g)
				if (err == nil) != (room >= needs) || w.s.Room() != 0 {
					t.Fatalf("%s of %d needs %d, and with room for %d it tells %d, %v, and %d is left", k.name, i, needs, room, n, err, w.s.Room())
				}
				w.askStays(t, k, c, f, v, g, n, err)
				c.Flush()
				w.askStays(t, k, c, f, v, g, n, err)
			}
		}
	}
	for _, k := range calls() {
		if many[k.name] < 5 {
			t.Fatalf("%s makes more than one node %d times", k.name, many[k.name])
		}
	}
}

// P11.1, P11.2: what is there already is told, be there room or none, and nothing happens, whatever is asked: all pairs of functions of two variables, by these and by two others, in a store without room, behind exchanges, by caches that keep, that are flushed and that are new.
func TestWhatIsThere(t *testing.T) {
	for i, order := range orders()[:4] {
		s, kept, flushed := inOrder(t, 14, order), ite.New(), ite.New()
		known, numbers := map[api.Func]int{}, make([]api.Func, 16)
		for k := range numbers {
			numbers[k] = table(func(x int) bool { return k>>(x>>i&1|x>>(7-i)&1<<1)&1 == 1 })
			known[numbers[k]], _ = read.Build(s, numbers[k])
		}
		for range 2 {
			was := look(s)
			for k := range 16 * 16 {
				f, g := numbers[k>>4], numbers[k&15]
				for _, v := range []int{i, 7 - i, (i + 1) % 8, (9 - i) % 8} {
					want := map[string]api.Func{
						"Restrict by 0": cof.Cof(f, v, false),
						"Restrict by 1": cof.Cof(f, v, true),
						"Exists":        cof.Exists(f, v),
						"Forall":        cof.Forall(f, v),
						"Compose":       cof.Compose(f, v, g),
					}
					flushed.Flush()
					for _, c := range []*ite.Cache{kept, flushed, ite.New()} {
						for _, k := range calls() {
							if n, err := k.ask(s, c, known[f], v, known[g]); n != known[want[k.name]] || err != nil {
								t.Fatalf("%s of %x, %d and %x tells %d, %v, not %d", k.name, f, v, g, n, err, known[want[k.name]])
							}
						}
					}
				}
			}
			if !look(s).is(was) || s.Live() != 14 || s.Room() != 0 {
				t.Fatalf("the store is %v, not %v", look(s), was)
			}
			for l := range 7 {
				s.Swap(l)
			}
			if s.Order() == was.order {
				t.Fatal("no levels changed places")
			}
		}
	}
}

// P11.1, P11.2: the numbers are those that the arena gives: those given back ahead of new ones, the last first.
func TestAtNumbersGivenBack(t *testing.T) {
	w, f, g := byHand(t, 40)
	var back []int
	for v := range 4 {
		back = append(back, w.mk(t, v, 1, 0), w.mk(t, 4+v, 1, 0))
	}
	for _, i := range []int{2, 0, 3, 1, 7, 5, 4, 6} {
		if err := w.free(t, back[i]); err != nil {
			t.Fatal(err)
		}
	}
	w.askIs(t, exists(), ite.New(), f, 2, g, back[0], nil)
	for i, want := range map[int]api.Node{
		6: {Var: 1, Lo: 0, Hi: 2}, 4: {Var: 0, Lo: back[6], Hi: 2},
		5: {Var: 1, Lo: 0, Hi: 3}, 7: {Var: 0, Lo: back[5], Hi: 3},
		1: {Var: 3, Lo: 3, Hi: 1}, 3: {Var: 1, Lo: 0, Hi: back[1]},
		0: {Var: 0, Lo: back[3], Hi: back[1]},
	} {
		if is, _ := w.s.Node(back[i]); is != want {
			t.Errorf("%d is %v, not %v", back[i], is, want)
		}
	}
}

// P11.1 to P11.3: what was asked ahead of exchanges of levels is told again behind them, by the cache that keeps it, by one that was flushed, and by a new one, and nothing of the answer is another; what is asked anew is made by the order that there is.
func TestBehindExchanges(t *testing.T) {
	for i, l := range couples() {
		w, kept, flushed := newTwins(t, 8000, plain), ite.New(), ite.New()
		f, g, v := w.build(t, l[0]), w.build(t, l[1]), i%8
		told := map[string]int{}
		for _, k := range calls() {
			told[k.name] = w.must(t, k, kept, f, v, g)
		}
		for n := range 8 {
			w.swap(t, (n*5+i)%7)
			flushed.Flush()
			for _, k := range calls() {
				w.askStays(t, k, kept, f, v, g, told[k.name], nil)
				w.askStays(t, k, flushed, f, v, g, told[k.name], nil)
				w.ask(t, k, ite.New(), told["Compose"], n, g)
				w.ask(t, k, kept, told["Exists"], (v+n)%8, told["Forall"])
			}
		}
	}
}

// P11.1, P11.2: behind frees and Flush, and for another store, nothing that was asked ahead is told any more: the same numbers are other nodes then.
func TestNothingIsKept(t *testing.T) {
	c := ite.New()
	for i, order := range orders() {
		w := newTwins(t, 90, order)
		for round := range 4 {
			v, u := (i+round)%8, (i+3*round+1)%8
			a, b := w.mk(t, v, 0, 1), w.mk(t, u, 1, 0)
			w.build(t, tab.Xor(tab.Var(v), tab.Or(tab.Var(u), tab.Var((u+2)%8))))
			c.Flush()
			for _, k := range calls() {
				w.ask(t, k, c, a, v, b)
				w.ask(t, k, c, b, u, a)
				for n := 2; n < 8; n++ {
					w.ask(t, k, c, n, u, 9-n)
				}
			}
			for range api.Vars {
				for _, n := range w.s.All() {
					w.free(t, n)
				}
			}
			if w.s.Live() != 0 {
				t.Fatal("not all are freed")
			}
			c.Flush()
			for _, k := range calls() {
				w.askStays(t, k, c, 2, u, 3, 0, api.ErrArg)
			}
		}
	}
}

// P11.1, P11.2: where there was no room it goes on, from what was made, as soon as there is some.
func TestGoesOnWithRoom(t *testing.T) {
	for _, k := range calls() {
		made := madeOf(k.name)
		w, f, g := byHand(t, len(hands)+len(made))
		var spare []int
		for i := range made {
			spare = append(spare, w.mk(t, []int{0, 1, 2, 6, 7}[i/2], i%2, 1-i%2))
		}
		c := ite.New()
		for i := range made {
			w.askStays(t, k, c, f, 2, g, 0, api.ErrFull)
			if err := w.free(t, spare[len(made)-1-i]); err != nil {
				t.Fatal(err)
			}
			c.Flush()
			if _, err := w.ask(t, k, c, f, 2, g); (err == nil) != (i == len(made)-1) || w.s.Room() != 0 {
				t.Fatalf("%s tells %v, %d is left", k.name, err, w.s.Room())
			}
		}
	}
}

// P11.1 to P11.3, P1: a store of as many as may be is filled by the calls, until there is no room; the nodes of the greatest numbers are as others are, and what is behind them isn't there.
func TestUntilThereIsNoRoom(t *testing.T) {
	r := rand.New(rand.NewSource(47))
	w, c := twins{s: inOrder(t, api.MaxNodes, orders()[5])}, ite.New()
	var roots []int
	for range 60 {
		n, _ := read.Build(w.s, shapeless(r))
		roots = append(roots, n)
	}
	for w.s.Room() > 0 {
		k, f, v, g := calls()[r.Intn(5)], roots[r.Intn(len(roots))], r.Intn(8), roots[r.Intn(len(roots))]
		n, err := k.ask(w.s, c, f, v, g)
		if err == nil && walked(w.s, n) != w.valued(k, f, v, g) || err != nil && (n != 0 || err != api.ErrFull || w.s.Room() > 0) {
			t.Fatalf("%s of %d, %d and %d tells %d, %v, and there is room for %d", k.name, f, v, g, n, err, w.s.Room())
		}
		if err == nil {
			roots = append(roots, n)
		}
	}
	for n := 19990; n < 20010; n++ {
		for i, k := range calls() {
			v, g := (n+i)%8, roots[n%len(roots)]
			m, err := k.ask(w.s, c, n, v, g)
			if (err == api.ErrArg) != (n > 20001) || err == nil && walked(w.s, m) != w.valued(k, n, v, g) || err != nil && m != 0 {
				t.Fatalf("%s of %d tells %d, %v", k.name, n, m, err)
			}
			m, err = k.ask(w.s, c, 1, v, n)
			if bad := n > 20001 && k.name == "Compose"; bad != (err == api.ErrArg) || bad == (m == 1) {
				t.Fatalf("%s of 1 and %d tells %d, %v", k.name, n, m, err)
			}
		}
	}
}

// P11.1 to P11.3, P1: long ways with no shape of asks, exchanges, frees and flushes, in stores of little and of much room.
func TestLongWays(t *testing.T) {
	for seed := range int64(20) {
		r := rand.New(rand.NewSource(seed + 200))
		w := newTwins(t, []int{3, 20, 90, 300, 1500}[seed%5], plain)
		l := []*ite.Cache{ite.New(), ite.New(), ite.New()}
		for range 150 {
			step(t, r, w, l)
			w.same(t)
		}
	}
}

// step does anything to both stores. Behind frees all caches are flushed.
func step(t *testing.T, r *rand.Rand, w twins, l []*ite.Cache) {
	t.Helper()
	some := func() int { return r.Intn(w.s.Live()+5) - 1 }
	switch r.Intn(9) {
	case 0:
		f := simple(r)
		w.both(t, func(s *store.Store) (int, error) { return read.Build(s, f) })
	case 1:
		v := r.Intn(8)
		w.both(t, func(s *store.Store) (int, error) { return s.Mk(v, 0, 1) })
	case 2:
		w.swap(t, r.Intn(7))
	case 3:
		for range 9 {
			w.free(t, some())
		}
		for _, c := range l {
			c.Flush()
		}
	case 4:
		l[2].Flush()
	default:
		w.ask(t, calls()[r.Intn(5)], l[r.Intn(3)], some(), r.Intn(10)-1, some())
	}
}

// P1, P11.1 to P11.3: no argument makes a call panic, and all is as the chapter's words tell it.
func FuzzAllArguments(f *testing.F) {
	for i, n := range append([]int{0, 1, 2, 3, 7, 255}, edges...) {
		f.Add(i*7%130, n, edges[(i+5)%len(edges)], noVars[(i+3)%len(noVars)], uint64(0x123456789abcdef0), ^uint64(0), uint64(1)<<63, []byte{1, 2, 90, 30, 60, 200, 150, 3, 4, 77, 6, 9, 0, 255})
	}
	f.Fuzz(func(t *testing.T, most, n, m, v int, a, b, c uint64, ways []byte) {
		w, kept, other := newTwins(t, most&127, plain), ite.New(), ite.New()
		g := api.Func{a, b, c, a ^ b}
		for i, way := range ways[:min(len(ways), 60)] {
			j := int(way >> 3)
			switch way & 7 {
			case 0:
				w.swap(t, j&7)
			case 1:
				w.free(t, j+i)
				kept.Flush()
				other.Flush()
			case 2:
				other.Flush()
			case 3:
				w.both(t, func(s *store.Store) (int, error) { return read.Build(s, cof.Cof(g, j&7, j > 7)) })
				g = api.Func{g[3], g[0] ^ a, g[1] + b, g[2]}
			case 4:
				w.ask(t, calls()[i%5], other, j, i%8, i)
			default:
				w.ask(t, calls()[j%5], kept, j, j%9, (j+i)%17)
			}
		}
		for _, k := range calls() {
			for _, q := range [][3]int{{n, 0, m}, {m, v, n}, {n, v, n}, {n, 1, 2}, {3, v, n}, {3, 2, n}, {3, 2, 2}, {2, v, 3}, {0, v, 0}, {2, v & 7, 3}} {
				w.ask(t, k, kept, q[0], q[1], q[2])
				w.ask(t, k, other, q[0], q[1], q[2])
			}
		}
	})
}

package oper_test

import (
	"bower/api"
	"bower/cof"
	"bower/ite"
	"bower/oper"
	"bower/read"
	"bower/store"
	"bower/tab"
	"math"
	"math/rand"
	"slices"
	"testing"
)

// edges are numbers that are no node's and no constant's: the nearest, those that wrap onto right ones, the least and the greatest.
var edges = []int{-1, -2, -3, -8, -64, 20002, 20003, 65536, 65538, 1<<31 - 1, 1 << 31, -1 << 31, 1 << 32, 1<<32 + 1, 1<<32 + 2, 1<<32 + 3, -1 << 32, 2 - 1<<32, 1 << 62, -1 << 62, math.MaxInt - 1, math.MaxInt, math.MinInt, math.MinInt + 1, math.MinInt + 2, math.MinInt + 3, math.MinInt + 4}

var plain = [8]int{0, 1, 2, 3, 4, 5, 6, 7}

// call is one of the chapter's calls, the chapter's words of it, and what it makes of two values.
type call struct {
	name  string
	ask   func(s *store.Store, c *ite.Cache, f, g int) (int, error)
	words func(s *store.Store, f, g int) (int, error)
	value func(f, g bool) bool
}

// not is Not as a call of two, of which it takes the first alone.
func not() call {
	return call{"Not",
		func(s *store.Store, c *ite.Cache, f, g int) (int, error) { return oper.Not(s, c, f) },
		func(s *store.Store, f, g int) (int, error) { return ite.New().Ite(s, f, 0, 1) },
		func(f, g bool) bool { return !f }}
}

func and() call {
	return call{"And", oper.And,
		func(s *store.Store, f, g int) (int, error) { return ite.New().Ite(s, f, g, 0) },
		func(f, g bool) bool { return f && g }}
}

func or() call {
	return call{"Or", oper.Or,
		func(s *store.Store, f, g int) (int, error) { return ite.New().Ite(s, f, 1, g) },
		func(f, g bool) bool { return f || g }}
}

func xor() call { return call{"Xor", oper.Xor, xorWords, func(f, g bool) bool { return f != g }} }

// xorWords is ErrArg, if f or g is neither a constant nor there; else first Not(g), n, then Ite(f, n, g).
func xorWords(s *store.Store, f, g int) (int, error) {
	if !there(s, f) || !there(s, g) {
		return 0, api.ErrArg
	}
	n, err := ite.New().Ite(s, g, 0, 1)
	if err != nil {
		return 0, err
	}
	return ite.New().Ite(s, f, n, g)
}

// pairs are the calls of two, calls are all.
func pairs() []call { return []call{and(), or(), xor()} }
func calls() []call { return append(pairs(), not()) }

// there tells whether n is a constant or among the numbers of the nodes.
func there(s *store.Store, n int) bool {
	return n == 0 || n == 1 || slices.Contains(s.All(), n)
}

// table lays a function out row by row, as chapter 1 does.
func table(value func(x int) bool) api.Func {
	var f api.Func
	for x := range api.Rows {
		if value(x) {
			f[x/64] |= 1 << (x % 64)
		}
	}
	return f
}

// walk is chapter 7's words of a node's function: in a row Hi's value, if its variable's is 1, else Lo's.
func walk(s *store.Store, n, x int) bool {
	for {
		is, ok := s.Node(n)
		switch {
		case !ok:
			return n == 1
		case x>>is.Var&1 == 1:
			n = is.Hi
		default:
			n = is.Lo
		}
	}
}

// walked is walk of all rows.
func walked(s *store.Store, n int) api.Func {
	return table(func(x int) bool { return walk(s, n, x) })
}

// inOrder is a store of so many, without nodes, whose levels were exchanged until the order is the one that is asked.
func inOrder(t *testing.T, most int, order [8]int) *store.Store {
	t.Helper()
	s := store.New(most)
	for l, v := range order {
		now := s.Order()
		for at := slices.Index(now[:], v); at > l; at-- {
			if err := s.Swap(at - 1); err != nil {
				t.Fatal(err)
			}
		}
	}
	if s.Order() != order {
		t.Fatalf("the order is %v, not %v", s.Order(), order)
	}
	return s
}

// orders are the plain one, it turned, two that part neighbours, and some with no shape.
func orders() [][8]int {
	l := [][8]int{plain, {7, 6, 5, 4, 3, 2, 1, 0}, {0, 2, 4, 6, 1, 3, 5, 7}, {6, 0, 7, 1, 5, 2, 4, 3}}
	r := rand.New(rand.NewSource(41))
	for range 4 {
		l = append(l, [8]int(r.Perm(api.Vars)))
	}
	return l
}

// shapeless is any function.
func shapeless(r *rand.Rand) api.Func {
	return api.Func{r.Uint64(), r.Uint64(), r.Uint64(), r.Uint64()}
}

// simple is a function of some variables alone.
func simple(r *rand.Rand) api.Func {
	f := shapeless(r)
	for range 3 + r.Intn(5) {
		f = cof.Cof(f, r.Intn(8), r.Intn(2) == 1)
	}
	return f
}

// odd is the sum of all variables.
func odd() api.Func {
	f := tab.Const(false)
	for v := range api.Vars {
		f = tab.Xor(f, tab.Var(v))
	}
	return f
}

// couples are two functions each: constants, variables and their opposites, some that are the same or each other's opposites, simple ones, some with no shape.
func couples() [][2]api.Func {
	r := rand.New(rand.NewSource(42))
	of := func() api.Func {
		v := r.Intn(8)
		switch r.Intn(8) {
		case 0:
			return tab.Const(v&1 == 1)
		case 1:
			return tab.Var(v)
		case 2:
			return tab.Not(tab.Var(v))
		case 3:
			return tab.And(tab.Var(v), tab.Var(r.Intn(8)))
		case 4:
			return shapeless(r)
		}
		return simple(r)
	}
	f := simple(r)
	l := [][2]api.Func{{tab.Var(0), tab.Var(1)}, {tab.Var(1), tab.Var(0)}, {odd(), tab.Var(7)}, {tab.Var(0), odd()}, {f, f}, {f, tab.Not(f)}}
	for range 26 {
		l = append(l, [2]api.Func{of(), of()})
	}
	return l
}

// view is all that can be seen of a store.
type view struct {
	order      [8]int
	live, room int
	nums       []int
	nodes      []api.Node
}

func look(s *store.Store) view {
	w := view{order: s.Order(), live: s.Live(), room: s.Room(), nums: s.All()}
	for _, n := range w.nums {
		is, _ := s.Node(n)
		w.nodes = append(w.nodes, is)
	}
	return w
}

func (w view) is(v view) bool {
	return w.order == v.order && w.live == v.live && w.room == v.room && slices.Equal(w.nums, v.nums) && slices.Equal(w.nodes, v.nodes)
}

// twins are two stores to which the same is done: one is asked by the calls, the other by the chapter's words, with caches that keep nothing.
// So what is made, in which order, and what can't be seen of a store, the turn of the numbers that were given back, is held by the numbers.
type twins struct{ s, other *store.Store }

func newTwins(t *testing.T, most int, order [8]int) twins {
	t.Helper()
	return twins{inOrder(t, most, order), inOrder(t, most, order)}
}

// same holds all that can be seen of one against the other.
func (w twins) same(t *testing.T) {
	t.Helper()
	if is, want := look(w.s), look(w.other); !is.is(want) {
		t.Fatalf("the store is %v, not %v", is, want)
	}
}

// ask holds what a call tells, and makes, against the chapter's words, and the function against the values of the two.
func (w twins) ask(t *testing.T, k call, c *ite.Cache, f, g int) (int, error) {
	t.Helper()
	want, wantErr := k.words(w.other, f, g)
	n, err := k.ask(w.s, c, f, g)
	if n != want || err != wantErr || err != nil && n != 0 {
		t.Fatalf("%s of %d and %d tells %d, %v, not %d, %v", k.name, f, g, n, err, want, wantErr)
	}
	w.same(t)
	is := table(func(x int) bool { return k.value(walk(w.s, f, x), walk(w.s, g, x)) })
	if err == nil && walked(w.s, n) != is {
		t.Fatalf("what %s of %d and %d tells, %d, is %x, not %x", k.name, f, g, n, walked(w.s, n), is)
	}
	return n, err
}

// askIs holds ask against what is known of it.
func (w twins) askIs(t *testing.T, k call, c *ite.Cache, f, g, want int, wantErr error) {
	t.Helper()
	if n, err := w.ask(t, k, c, f, g); n != want || err != wantErr {
		t.Fatalf("%s of %d and %d tells %d, %v, not %d, %v", k.name, f, g, n, err, want, wantErr)
	}
}

// askStays holds askIs, and that nothing happens by it.
func (w twins) askStays(t *testing.T, k call, c *ite.Cache, f, g, want int, wantErr error) {
	t.Helper()
	was := look(w.s)
	w.askIs(t, k, c, f, g, want, wantErr)
	if !look(w.s).is(was) {
		t.Fatalf("by %s of %d and %d the store changes", k.name, f, g)
	}
}

// must is ask where there is room.
func (w twins) must(t *testing.T, k call, c *ite.Cache, f, g int) int {
	t.Helper()
	n, err := w.ask(t, k, c, f, g)
	if err != nil {
		t.Fatalf("%s of %d and %d tells %v", k.name, f, g, err)
	}
	return n
}

// both asks both stores the same, and tells what the first tells.
func (w twins) both(t *testing.T, ask func(s *store.Store) (int, error)) (int, error) {
	t.Helper()
	n, err := ask(w.s)
	want, wantErr := ask(w.other)
	if n != want || err != wantErr {
		t.Fatalf("one store tells %d, %v, the other %d, %v", n, err, want, wantErr)
	}
	return n, err
}

func (w twins) mk(t *testing.T, v, lo, hi int) int {
	t.Helper()
	n, err := w.both(t, func(s *store.Store) (int, error) { return s.Mk(v, lo, hi) })
	if err != nil {
		t.Fatalf("Mk(%d, %d, %d) tells %v", v, lo, hi, err)
	}
	return n
}

func (w twins) build(t *testing.T, f api.Func) int {
	t.Helper()
	n, err := w.both(t, func(s *store.Store) (int, error) { return read.Build(s, f) })
	if err != nil {
		t.Fatalf("Build(%x) tells %v", f, err)
	}
	return n
}

func (w twins) free(t *testing.T, n int) error {
	t.Helper()
	_, err := w.both(t, func(s *store.Store) (int, error) { return 0, s.Free(n) })
	return err
}

func (w twins) mustFree(t *testing.T, n int) {
	t.Helper()
	if err := w.free(t, n); err != nil {
		t.Fatalf("Free(%d) tells %v", n, err)
	}
}

func (w twins) swap(t *testing.T, l int) {
	t.Helper()
	w.both(t, func(s *store.Store) (int, error) { return 0, s.Swap(l) })
}

// fill makes nodes with no shape until there is room for so many.
func (w twins) fill(t *testing.T, r *rand.Rand, room int) {
	t.Helper()
	w.fillBut(t, r, room, nil)
}

// fillBut is fill of nodes whose functions are none of some.
func (w twins) fillBut(t *testing.T, r *rand.Rand, room int, but map[api.Func]bool) {
	t.Helper()
	k := w.known()
	var l []api.Func
	for _, n := range k {
		l = append(l, read.Table(w.s, n))
	}
	for w.s.Room() > room {
		v, lo, hi := r.Intn(8), r.Intn(len(k)), r.Intn(len(k))
		f := tab.Ite(tab.Var(v), l[hi], l[lo])
		if but[f] {
			continue
		}
		was := w.s.Live()
		if n, _ := w.both(t, func(s *store.Store) (int, error) { return s.Mk(v, k[lo], k[hi]) }); w.s.Live() > was {
			k, l = append(k, n), append(l, f)
		}
	}
}

// filled are stores of so many, with room for so many more, of nodes with no shape.
func filled(t *testing.T, seed int64, most, room int) twins {
	t.Helper()
	r := rand.New(rand.NewSource(seed))
	w := newTwins(t, most, [8]int(r.Perm(api.Vars)))
	w.fill(t, r, room)
	w.same(t)
	return w
}

// stores are of many kinds: without room, without nodes, with some, with no room left, with room for one, with numbers given back.
func stores(t *testing.T) []twins {
	t.Helper()
	l := []twins{newTwins(t, 0, plain), newTwins(t, 1, plain), newTwins(t, 300, orders()[3])}
	l = append(l, filled(t, 51, 600, 540), filled(t, 52, 40, 0), filled(t, 53, 1, 0), filled(t, 54, 41, 1))
	w := filled(t, 55, 500, 430)
	w.thin(t)
	return append(l, w)
}

// thin frees some of what no other has.
func (w twins) thin(t *testing.T) {
	t.Helper()
	for _, n := range w.s.All() {
		if n%3 != 0 {
			w.free(t, n)
		}
	}
}

// known are the constants and the numbers of all nodes.
func (w twins) known() []int { return append([]int{0, 1}, w.s.All()...) }

// some are known, the constants and a few nodes with no shape in their numbers, the last one too.
func (w twins) some(r *rand.Rand) []int {
	k := w.known()
	l := []int{0, 1, k[len(k)-1]}
	for range 5 {
		l = append(l, k[r.Intn(len(k))])
	}
	return l
}

// unknown are numbers that are neither a constant nor there, those that were freed too.
func (w twins) unknown() []int {
	l := slices.Clone(edges)
	for n := 2; n < 610; n++ {
		if _, ok := w.s.Node(n); !ok && (n < 120 || n%50 == 0) {
			l = append(l, n)
		}
	}
	return append(l, 20000, 20001)
}

// kinds are four caches, of which three are asked ahead and behind of exchanges of levels: one keeps all that came of it, one was flushed then, one was flushed between; one is new.
func (w twins) kinds(t *testing.T, r *rand.Rand) []*ite.Cache {
	t.Helper()
	kept, flushed, between := ite.New(), ite.New(), ite.New()
	for i := range 10 {
		k := w.known()
		for _, c := range []*ite.Cache{kept, flushed, between} {
			w.ask(t, calls()[r.Intn(4)], c, k[r.Intn(len(k))], k[r.Intn(len(k))])
		}
		w.swap(t, r.Intn(7))
		if i == 6 {
			between.Flush()
		}
	}
	flushed.Flush()
	return []*ite.Cache{kept, flushed, between, ite.New()}
}

// inAll does something to stores of many kinds, as they are, and behind exchanges of levels, with caches of many kinds.
func inAll(t *testing.T, seed int64, do func(r *rand.Rand, w twins, c *ite.Cache)) {
	t.Helper()
	for i, w := range stores(t) {
		r := rand.New(rand.NewSource(seed + int64(i)))
		do(r, w, ite.New())
		for _, c := range w.kinds(t, r) {
			do(r, w, c)
		}
	}
}

// nodesAre holds all nodes that there are against what they should be.
func (w twins) nodesAre(t *testing.T, want []api.Node) {
	t.Helper()
	if is := look(w.s).nodes; !slices.Equal(is, want) {
		t.Fatalf("the nodes are %v, not %v", is, want)
	}
}

// byHand is a store of so many in which x0, x2, and x1 and x2 are 2, 3 and 4.
func byHand(t *testing.T, most int) (w twins, x0, x2, g int) {
	t.Helper()
	w = newTwins(t, most, plain)
	x0, x2 = w.mk(t, 0, 0, 1), w.mk(t, 2, 0, 1)
	return w, x0, x2, w.mk(t, 1, 0, x2)
}

// hands are the nodes of byHand.
var hands = []api.Node{{Var: 0, Lo: 0, Hi: 1}, {Var: 2, Lo: 0, Hi: 1}, {Var: 1, Lo: 0, Hi: 3}}

// P10.1, P10.2: the chapter's example.
func TestExample(t *testing.T) {
	w, c := newTwins(t, 2, plain), ite.New()
	x := w.mk(t, 0, 0, 1)
	n := w.must(t, not(), c, x, 0)
	w.askStays(t, and(), c, x, n, 0, nil)
	w.askStays(t, and(), c, n, x, 0, nil)
	w.nodesAre(t, []api.Node{{Var: 0, Lo: 0, Hi: 1}, {Var: 0, Lo: 1, Hi: 0}})
}

// P10.1: what each makes, by hand, from below; where there is no room what was made by then stays, and nothing else is made, asked again too.
func TestMakesFromBelow(t *testing.T) {
	of := map[string][]api.Node{
		"Not": {{Var: 2, Lo: 1, Hi: 0}, {Var: 1, Lo: 1, Hi: 5}},
		"And": {{Var: 0, Lo: 0, Hi: 4}},
		"Or":  {{Var: 0, Lo: 4, Hi: 1}},
		"Xor": {{Var: 2, Lo: 1, Hi: 0}, {Var: 1, Lo: 1, Hi: 5}, {Var: 0, Lo: 4, Hi: 6}},
	}
	for _, k := range calls() {
		made := of[k.name]
		for room := range len(made) + 2 {
			w, x0, _, g := byHand(t, 3+room)
			if k.name == "Not" {
				x0 = g
			}
			c := ite.New()
			for i := range 4 {
				if room < len(made) {
					w.askIs(t, k, c, x0, g, 0, api.ErrFull)
				} else {
					w.askIs(t, k, c, x0, g, 4+len(made), nil)
				}
				w.nodesAre(t, append(slices.Clone(hands), made[:min(room, len(made))]...))
				if i == 2 {
					c.Flush()
				}
			}
		}
	}
}

// P10.1: Xor makes Not of its second, also where the answer isn't above it: it stays.
func TestXorMakesNotOfItsSecond(t *testing.T) {
	for room := range 4 {
		w, c := newTwins(t, 2+room, plain), ite.New()
		x0, x1 := w.mk(t, 0, 0, 1), w.mk(t, 1, 0, 1)
		made := []api.Node{{Var: 0, Lo: 0, Hi: 1}, {Var: 1, Lo: 0, Hi: 1}, {Var: 0, Lo: 1, Hi: 0}, {Var: 1, Lo: 1, Hi: 0}, {Var: 0, Lo: 3, Hi: 5}}
		for range 2 {
			if room < 3 {
				w.askIs(t, xor(), c, x1, x0, 0, api.ErrFull)
			} else {
				w.askIs(t, xor(), c, x1, x0, 6, nil)
			}
			w.nodesAre(t, made[:2+room])
			c.Flush()
		}
	}
}

// P10.1: with a constant, or itself, as its first Xor makes Not of its second first, too, and there must be room for that.
func TestXorWithAConstantMakesNot(t *testing.T) {
	for first := range 3 {
		for room := range 3 {
			w, x0, _, g := byHand(t, 3+room)
			f := []int{0, 1, g}[first]
			c := ite.New()
			for range 2 {
				if room < 2 {
					w.askIs(t, xor(), c, f, g, 0, api.ErrFull)
				} else {
					w.askIs(t, xor(), c, f, g, []int{g, 6, 0}[first], nil)
				}
				w.nodesAre(t, append(slices.Clone(hands), []api.Node{{Var: 2, Lo: 1, Hi: 0}, {Var: 1, Lo: 1, Hi: 5}}[:room]...))
				c.Flush()
			}
			w.askStays(t, xor(), c, x0, 0, x0, nil)
			w.askStays(t, xor(), c, g, 0, g, nil)
		}
	}
}

// P10.1: of constants a constant is told, be there room or none, and nothing happens.
func TestConstants(t *testing.T) {
	inAll(t, 60, func(r *rand.Rand, w twins, c *ite.Cache) {
		for i := range 4 {
			f, g := i>>1, i&1
			w.askStays(t, not(), c, f, g, 1-f, nil)
			w.askStays(t, and(), c, f, g, f&g, nil)
			w.askStays(t, or(), c, f, g, f|g, nil)
			w.askStays(t, xor(), c, f, g, f^g, nil)
		}
	})
}

// P10.1: with a constant And and Or tell one of the two, and so does Xor with false as its second; nothing happens, be there room or none.
func TestWithAConstant(t *testing.T) {
	inAll(t, 70, func(r *rand.Rand, w twins, c *ite.Cache) {
		for _, n := range w.known() {
			w.askStays(t, and(), c, n, 0, 0, nil)
			w.askStays(t, and(), c, 0, n, 0, nil)
			w.askStays(t, and(), c, n, 1, n, nil)
			w.askStays(t, and(), c, 1, n, n, nil)
			w.askStays(t, or(), c, n, 0, n, nil)
			w.askStays(t, or(), c, 0, n, n, nil)
			w.askStays(t, or(), c, n, 1, 1, nil)
			w.askStays(t, or(), c, 1, n, 1, nil)
			w.askStays(t, xor(), c, n, 0, n, nil)
		}
	})
}

// P10.1, P10.2: of the same node twice And and Or tell it, and nothing happens; Xor tells 0, if there is room for not of it.
func TestTheSameTwice(t *testing.T) {
	inAll(t, 80, func(r *rand.Rand, w twins, c *ite.Cache) {
		for _, n := range w.known() {
			w.askStays(t, and(), c, n, n, n, nil)
			w.askStays(t, or(), c, n, n, n, nil)
		}
		for _, n := range w.some(r) {
			want, wantErr := w.ask(t, not(), ite.New(), n, 0)
			m, err := w.ask(t, xor(), c, n, n)
			if m != 0 || err != wantErr {
				t.Fatalf("Xor of %d twice tells %d, %v; Not of it %d, %v", n, m, err, want, wantErr)
			}
		}
	})
}

// P10.1, P10.2: a node and not of it: all is a constant or one of the two, and nothing happens.
func TestOpposites(t *testing.T) {
	inAll(t, 90, func(r *rand.Rand, w twins, c *ite.Cache) {
		for _, f := range w.some(r) {
			g, err := w.ask(t, not(), c, f, 0)
			if err != nil {
				continue
			}
			w.askStays(t, not(), c, g, 0, f, nil)
			w.askStays(t, and(), c, f, g, 0, nil)
			w.askStays(t, and(), c, g, f, 0, nil)
			w.askStays(t, or(), c, f, g, 1, nil)
			w.askStays(t, or(), c, g, f, 1, nil)
			w.askStays(t, xor(), c, f, g, 1, nil)
			w.askStays(t, xor(), c, g, f, 1, nil)
			w.askStays(t, xor(), c, f, f, 0, nil)
			w.askStays(t, xor(), c, g, g, 0, nil)
			w.askStays(t, xor(), c, f, 1, g, nil)
			w.askStays(t, xor(), c, 1, f, g, nil)
			w.askStays(t, xor(), c, 0, f, f, nil)
		}
	})
}

// P10.1: whatever the two are, each tells what the chapter's words tell, with the same nodes made in the same order; asked again nothing happens.
func TestAsTheWords(t *testing.T) {
	inAll(t, 100, func(r *rand.Rand, w twins, c *ite.Cache) {
		for _, f := range w.some(r) {
			g, k := w.known()[r.Intn(w.s.Live()+2)], calls()[r.Intn(4)]
			n, err := w.ask(t, k, c, f, g)
			w.askStays(t, k, c, f, g, n, err)
			w.askStays(t, k, ite.New(), f, g, n, err)
		}
	})
}

// P10.2: And and Or change places by Not, of both and of each, and Xor tells the same either way; also with Not of one, or of both.
func TestChangePlacesByNot(t *testing.T) {
	r := rand.New(rand.NewSource(43))
	for i, l := range couples() {
		w := newTwins(t, 4000, orders()[i%8])
		f, g := w.build(t, l[0]), w.build(t, l[1])
		for _, c := range w.kinds(t, r) {
			to := func(k call, f, g int) int { return w.must(t, k, c, f, g) }
			notF, notG := to(not(), f, 0), to(not(), g, 0)
			for _, p := range [][2]int{
				{to(not(), to(and(), f, g), 0), to(or(), notF, notG)},
				{to(not(), to(or(), f, g), 0), to(and(), notF, notG)},
				{to(not(), to(and(), notF, g), 0), to(or(), f, notG)},
				{to(not(), to(or(), f, notG), 0), to(and(), notF, g)},
				{to(and(), f, g), to(and(), g, f)},
				{to(or(), f, g), to(or(), g, f)},
				{to(xor(), f, g), to(xor(), g, f)},
				{to(xor(), f, g), to(xor(), notF, notG)},
				{to(xor(), f, notG), to(not(), to(xor(), f, g), 0)},
				{to(xor(), f, g), to(and(), to(or(), f, g), to(or(), notF, notG))},
				{to(not(), notF, 0), f},
				{to(xor(), f, f), 0},
				{to(xor(), to(xor(), f, g), g), f},
			} {
				if p[0] != p[1] {
					t.Fatalf("of %d and %d: %d isn't %d", f, g, p[0], p[1])
				}
			}
		}
	}
}

// P10.1, R1, R3, P1: the first, the second, or both are neither constants nor there, also where the answer wouldn't hang on it: ErrArg, with 0, and nothing is made.
func TestWrongNumbers(t *testing.T) {
	inAll(t, 110, func(r *rand.Rand, w twins, c *ite.Cache) {
		l, was := w.some(r), look(w.s)
		other := edges[r.Intn(len(edges))]
		for i, bad := range w.unknown() {
			n := l[i%len(l)]
			for _, q := range [][2]int{{bad, n}, {n, bad}, {bad, 0}, {0, bad}, {bad, 1}, {1, bad}, {bad, bad}, {bad, other}, {other, bad}} {
				for _, k := range pairs() {
					if m, err := k.ask(w.s, c, q[0], q[1]); m != 0 || err != api.ErrArg {
						t.Fatalf("%s of %d and %d tells %d, %v", k.name, q[0], q[1], m, err)
					}
				}
			}
			if m, err := oper.Not(w.s, c, bad); m != 0 || err != api.ErrArg {
				t.Fatalf("Not of %d tells %d, %v", bad, m, err)
			}
		}
		if !look(w.s).is(was) {
			t.Fatalf("the store is %v, not %v", look(w.s), was)
		}
		w.ask(t, xor(), c, l[2], l[3])
	})
}

// P10.1, R1: of Xor ErrArg is told ahead of all else, with nothing made: where there is room for Not of the second, for a part of it, and for none; behind that it is made as if nothing had been asked.
func TestXorOfWrongNumbersMakesNothing(t *testing.T) {
	for room := range 5 {
		for _, bad := range append([]int{3 + room + 2, 20001}, edges...) {
			w, x0, x2, g := byHand(t, 3+room)
			c := ite.New()
			for range 2 {
				w.askStays(t, xor(), c, bad, g, 0, api.ErrArg)
				w.askStays(t, xor(), c, bad, x2, 0, api.ErrArg)
				w.askStays(t, xor(), c, g, bad, 0, api.ErrArg)
				w.askStays(t, xor(), c, bad, bad, 0, api.ErrArg)
			}
			w.nodesAre(t, hands)
			if n, err := w.ask(t, xor(), c, x0, g); (err == nil) != (room >= 3) {
				t.Fatalf("with room for %d Xor tells %d, %v", room, n, err)
			}
		}
	}
}

// P10.1, R3: what was freed isn't there any more, as the first and as the second; taken anew it is what it is then.
func TestWhatWasFreed(t *testing.T) {
	for _, k := range calls() {
		w, x0, x2, g := byHand(t, 40)
		c := ite.New()
		n := w.mk(t, 6, 0, 1)
		for _, m := range []int{x0, x2, g, n} {
			w.ask(t, k, c, n, m)
			w.ask(t, k, c, m, n)
		}
		for range api.Vars {
			for m := 41; m >= n; m-- {
				w.free(t, m)
			}
		}
		w.nodesAre(t, hands)
		c.Flush()
		for _, m := range []int{x0, x2, g, n, 0, 1} {
			w.askStays(t, k, c, n, m, 0, api.ErrArg)
			if k.name != "Not" {
				w.askStays(t, k, c, m, n, 0, api.ErrArg)
			}
		}
		for w.mk(t, 7-w.s.Live()%2, w.s.Live()/2%2, 1-w.s.Live()/2%2) != n {
			if w.s.Live() > 7 {
				t.Fatalf("%d isn't taken anew", n)
			}
		}
		for _, m := range []int{x0, x2, g, n} {
			w.must(t, k, c, n, m)
			w.must(t, k, c, m, n)
		}
	}
}

// prepared are a store in some order, and the nodes of two functions in it, behind exchanges of levels, with a cache that was asked of other nodes ahead of these, and keeps what came of it, or was flushed, or is new.
func prepared(t *testing.T, i, way int, l [2]api.Func) (w twins, c *ite.Cache, f, g int) {
	t.Helper()
	r := rand.New(rand.NewSource(int64(i)))
	w = newTwins(t, 700, orders()[i%8])
	f, g = w.build(t, l[0]), w.build(t, l[1])
	c = ite.New()
	for range 5 {
		k := w.known()
		n, m := k[r.Intn(len(k))], k[r.Intn(len(k))]
		if min(n, m) != min(f, g) || max(n, m) != max(f, g) {
			w.ask(t, calls()[r.Intn(4)], c, n, m)
		}
		w.swap(t, r.Intn(7))
	}
	switch way {
	case 1:
		c.Flush()
	case 2:
		c = ite.New()
	}
	return w, c, f, g
}

// P10.1: with room for just as many nodes as it needs a call makes them, and with room for one less, for fewer, or for none, it tells ErrFull, with 0; then what was made stays, and nothing else.
func TestWithLittleRoom(t *testing.T) {
	for i, l := range couples() {
		for j, k := range calls() {
			way := (i + j) % 3
			w, c, f, g := prepared(t, i, way, l)
			was := w.s.Live()
			w.must(t, k, c, f, g)
			needs := w.s.Live() - was
			made := map[api.Func]bool{}
			for _, n := range w.s.All() {
				made[read.Table(w.s, n)] = true
			}
			for _, room := range slices.Compact([]int{needs, max(needs-1, 0), needs / 2, 0}) {
				w, c, f, g := prepared(t, i, way, l)
				w.fillBut(t, rand.New(rand.NewSource(44)), room, made)
				n, err := w.ask(t, k, c, f, g)
				if (err == nil) != (room >= needs) || w.s.Room() != 0 {
					t.Fatalf("%s of %d needs %d, and with room for %d it tells %d, %v, and %d is left", k.name, i, needs, room, n, err, w.s.Room())
				}
				w.askStays(t, k, c, f, g, n, err)
				c.Flush()
				w.askStays(t, k, c, f, g, n, err)
			}
		}
	}
}

// P10.1: what is there already is told, be there room or none, and nothing happens, whatever the two are: all pairs of functions of two variables, in a store without room, behind exchanges, by caches that keep, that are flushed and that are new.
func TestWhatIsThere(t *testing.T) {
	for i, order := range orders()[:4] {
		s, kept, flushed := inOrder(t, 14, order), ite.New(), ite.New()
		var known [16]int
		for k := range known {
			known[k], _ = read.Build(s, table(func(x int) bool { return k>>(x>>i&1|x>>(7-i)&1<<1)&1 == 1 }))
		}
		for range 2 {
			was := look(s)
			for k := range 16 * 16 {
				f, g := k>>4, k&15
				want := map[string]int{"Not": ^f & 15, "And": f & g, "Or": f | g, "Xor": f ^ g}
				flushed.Flush()
				for _, c := range []*ite.Cache{kept, flushed, ite.New(), kept} {
					for _, k := range calls() {
						if n, err := k.ask(s, c, known[f], known[g]); n != known[want[k.name]] || err != nil {
							t.Fatalf("%s of functions %d and %d tells %d, %v, not %d", k.name, f, g, n, err, known[want[k.name]])
						}
					}
				}
			}
			if !look(s).is(was) || s.Live() != 14 || s.Room() != 0 {
				t.Fatalf("the store is %v, not %v", look(s), was)
			}
			for l := range 7 {
				s.Swap(l)
			}
			if s.Order() == was.order {
				t.Fatal("no levels changed places")
			}
		}
	}
}

// P10.1: the numbers are those that the arena gives: those given back ahead of new ones, the last first.
func TestAtNumbersGivenBack(t *testing.T) {
	w, x0, _, g := byHand(t, 12)
	var back []int
	for v := range 4 {
		back = append(back, w.mk(t, 4+v, 0, 1))
	}
	for _, i := range []int{2, 0, 3, 1} {
		w.mustFree(t, back[i])
	}
	w.askIs(t, xor(), ite.New(), x0, g, 5, nil)
	for n, want := range map[int]api.Node{6: {Var: 2, Lo: 1, Hi: 0}, 8: {Var: 1, Lo: 1, Hi: 6}, 5: {Var: 0, Lo: 4, Hi: 8}} {
		if is, _ := w.s.Node(n); is != want {
			t.Errorf("%d is %v, not %v", n, is, want)
		}
	}
}

// P10.1, P10.2: what was asked ahead of exchanges of levels is told again behind them, by the cache that keeps it, by one that was flushed, and by a new one, and nothing happens; what is asked anew is made by the order that there is.
func TestBehindExchanges(t *testing.T) {
	for i, l := range couples() {
		w, kept, flushed := newTwins(t, 6000, plain), ite.New(), ite.New()
		f, g := w.build(t, l[0]), w.build(t, l[1])
		told := map[string]int{}
		for _, k := range calls() {
			told[k.name] = w.must(t, k, kept, f, g)
		}
		for n := range 8 {
			w.swap(t, (n*5+i)%7)
			flushed.Flush()
			for _, k := range calls() {
				w.askStays(t, k, kept, f, g, told[k.name], nil)
				w.ask(t, k, flushed, f, g)
				w.ask(t, k, ite.New(), told["And"], told["Or"])
				w.ask(t, k, kept, told["Xor"], g)
			}
		}
	}
}

// P10.1: behind frees and Flush, and for another store, nothing that was asked ahead is told any more: the same numbers are other nodes then.
func TestNothingIsKept(t *testing.T) {
	c := ite.New()
	for i, order := range orders() {
		w := newTwins(t, 60, order)
		for round := range 4 {
			a, b := w.mk(t, (i+round)%8, 0, 1), w.mk(t, (i+3*round+1)%8, 1, 0)
			c.Flush()
			for _, k := range calls() {
				w.ask(t, k, c, a, b)
				w.ask(t, k, c, b, a)
				w.ask(t, k, c, 2, 3)
			}
			for range api.Vars {
				for _, n := range w.s.All() {
					w.free(t, n)
				}
			}
			if w.s.Live() != 0 {
				t.Fatal("not all are freed")
			}
			c.Flush()
			for _, k := range calls() {
				w.askStays(t, k, c, 2, 3, 0, api.ErrArg)
			}
		}
	}
}

// P10.1: where there was no room it goes on, from what was made, as soon as there is some.
func TestGoesOnWithRoom(t *testing.T) {
	w, x0, _, g := byHand(t, 5)
	spare := w.mk(t, 7, 0, 1)
	c := ite.New()
	w.askIs(t, xor(), c, x0, g, 0, api.ErrFull)
	w.askStays(t, xor(), c, x0, g, 0, api.ErrFull)
	w.mustFree(t, spare)
	c.Flush()
	w.askIs(t, xor(), c, x0, g, 0, api.ErrFull)
	if is, _ := w.s.Node(spare); is != (api.Node{Var: 1, Lo: 1, Hi: 6}) {
		t.Fatalf("%d is %v", spare, is)
	}
	w.askStays(t, not(), c, g, 0, spare, nil)
	w.askStays(t, xor(), c, x0, g, 0, api.ErrFull)
	w.askStays(t, or(), c, x0, g, 0, api.ErrFull)
}

// P10.1, P1: a store of as many as may be is filled by the calls, until there is no room; the nodes of the greatest numbers are as others are, and what is behind them isn't there.
func TestUntilThereIsNoRoom(t *testing.T) {
	r := rand.New(rand.NewSource(45))
	s, c := inOrder(t, api.MaxNodes, orders()[5]), ite.New()
	var roots []int
	for range 40 {
		n, _ := read.Build(s, simple(r))
		roots = append(roots, n)
	}
	for s.Room() > 0 {
		k, f, g := calls()[r.Intn(4)], roots[r.Intn(len(roots))], roots[r.Intn(len(roots))]
		n, err := k.ask(s, c, f, g)
		is := table(func(x int) bool { return k.value(walk(s, f, x), walk(s, g, x)) })
		if err == nil && walked(s, n) != is || err != nil && (n != 0 || err != api.ErrFull || s.Room() > 0) {
			t.Fatalf("%s of %d and %d tells %d, %v, and there is room for %d", k.name, f, g, n, err, s.Room())
		}
		if err == nil {
			roots = append(roots, n)
		}
	}
	for n := 19990; n < 20010; n++ {
		for _, k := range calls() {
			m, err := k.ask(s, c, n, roots[n%len(roots)])
			is := table(func(x int) bool { return k.value(walk(s, n, x), walk(s, roots[n%len(roots)], x)) })
			if (err == api.ErrArg) != (n > 20001) || err == nil && walked(s, m) != is || err != nil && m != 0 {
				t.Fatalf("%s of %d tells %d, %v", k.name, n, m, err)
			}
		}
		if m, err := oper.And(s, c, n, n); n <= 20001 && (m != n || err != nil) {
			t.Fatalf("And of %d twice tells %d, %v", n, m, err)
		}
	}
}

// P10.1, P10.2, P1: long ways with no shape of asks, exchanges, frees and flushes, in stores of little and of much room.
func TestLongWays(t *testing.T) {
	for seed := range int64(20) {
		r := rand.New(rand.NewSource(seed + 200))
		w := newTwins(t, []int{3, 20, 90, 300, 1500}[seed%5], plain)
		l := []*ite.Cache{ite.New(), ite.New(), ite.New()}
		for range 150 {
			step(t, r, w, l)
			w.same(t)
		}
	}
}

// step does anything to both stores. Behind frees all caches are flushed.
func step(t *testing.T, r *rand.Rand, w twins, l []*ite.Cache) {
	t.Helper()
	some := func() int { return r.Intn(w.s.Live()+5) - 1 }
	switch r.Intn(9) {
	case 0:
		f := simple(r)
		w.both(t, func(s *store.Store) (int, error) { return read.Build(s, f) })
	case 1:
		v := r.Intn(8)
		w.both(t, func(s *store.Store) (int, error) { return s.Mk(v, 0, 1) })
	case 2:
		w.swap(t, r.Intn(7))
	case 3:
		for range 9 {
			w.free(t, some())
		}
		for _, c := range l {
			c.Flush()
		}
	case 4:
		l[2].Flush()
	default:
		w.ask(t, calls()[r.Intn(4)], l[r.Intn(3)], some(), some())
	}
}

// P1, P10.1: no argument makes a call panic, and all is as the chapter's words tell it.
func FuzzAllArguments(f *testing.F) {
	for i, n := range append([]int{0, 1, 2, 3, 7, 255}, edges...) {
		f.Add(i*7%130, n, edges[(i+5)%len(edges)], uint64(0x123456789abcdef0), ^uint64(0), uint64(1)<<63, []byte{1, 2, 90, 30, 60, 200, 150, 3, 4, 77, 6, 9, 0, 255})
	}
	f.Fuzz(func(t *testing.T, most, n, m int, a, b, c uint64, ways []byte) {
		w, kept, other := newTwins(t, most&127, plain), ite.New(), ite.New()
		g := api.Func{a, b, c, a ^ b}
		for i, way := range ways[:min(len(ways), 60)] {
			j := int(way >> 3)
			switch way & 7 {
			case 0:
				w.swap(t, j&7)
			case 1:
				w.free(t, j+i)
				kept.Flush()
				other.Flush()
			case 2:
				other.Flush()
			case 3:
				w.both(t, func(s *store.Store) (int, error) { return read.Build(s, cof.Cof(g, j&7, j > 7)) })
				g = api.Func{g[3], g[0] ^ a, g[1] + b, g[2]}
			case 4:
				w.ask(t, calls()[i&3], other, j, i)
			default:
				w.ask(t, calls()[j&3], kept, j, (j+i)%17)
			}
		}
		for _, k := range calls() {
			for _, q := range [][2]int{{n, m}, {m, n}, {n, n}, {n, 2}, {3, n}, {3, 2}, {2, 2}} {
				w.ask(t, k, kept, q[0], q[1])
				w.ask(t, k, other, q[0], q[1])
			}
		}
	})
}

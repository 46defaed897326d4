package ite_test

import (
	"bower/api"
	"bower/cof"
	"bower/ite"
	"bower/read"
	"bower/store"
	"bower/tab"
	"math"
	"math/rand"
	"slices"
	"testing"
)

// edges are numbers that are no node's and no constant's: the nearest, those that wrap onto right ones, the least and the greatest.
var edges = []int{-1, -2, -3, -8, -64, 20002, 20003, 65536, 65538, 1<<31 - 1, 1 << 31, -1 << 31, 1 << 32, 1<<32 + 1, 1<<32 + 2, 1<<32 + 3, -1 << 32, 2 - 1<<32, 1 << 62, -1 << 62, math.MaxInt - 1, math.MaxInt, math.MinInt, math.MinInt + 1, math.MinInt + 2, math.MinInt + 3, math.MinInt + 4}

var (
	no, yes = tab.Const(false), tab.Const(true)
	plain   = [8]int{0, 1, 2, 3, 4, 5, 6, 7}
)

// bit reads the table as chapter 1 lays it out.
func bit(f api.Func, x int) bool { return f[x/64]&(uint64(1)<<(x%64)) != 0 }

// table lays a function out row by row.
func table(value func(x int) bool) api.Func {
	var f api.Func
	for x := range api.Rows {
		if value(x) {
			f[x/64] |= 1 << (x % 64)
		}
	}
	return f
}

// chosen is chapter 1's words of Ite: in a row g's value, if f's is 1, else h's.
func chosen(f, g, h api.Func) api.Func {
	return table(func(x int) bool {
		if bit(f, x) {
			return bit(g, x)
		}
		return bit(h, x)
	})
}

// walk is chapter 7's words of a node's function: in a row Hi's value, if its variable's is 1, else Lo's.
func walk(s *store.Store, n, x int) bool {
	for {
		is, ok := s.Node(n)
		switch {
		case !ok:
			return n == 1
		case x>>is.Var&1 == 1:
			n = is.Hi
		default:
			n = is.Lo
		}
	}
}

// walked is walk of all rows.
func walked(s *store.Store, n int) api.Func {
	return table(func(x int) bool { return walk(s, n, x) })
}

// there tells whether n is a constant or among the numbers of the nodes.
func there(s *store.Store, n int) bool {
	return n == 0 || n == 1 || slices.Contains(s.All(), n)
}

// promised is chapter 9's words: ErrArg, if one of the three is neither a constant nor there, else what layer 8 builds of the function.
func promised(s *store.Store, f, g, h int) (int, error) {
	if !there(s, f) || !there(s, g) || !there(s, h) {
		return 0, api.ErrArg
	}
	return read.Build(s, chosen(walked(s, f), walked(s, g), walked(s, h)))
}

// inOrder is a store of so many, without nodes, whose levels were exchanged until the order is the one that is asked.
func inOrder(t *testing.T, most int, order [8]int) *store.Store {
	t.Helper()
	s := store.New(most)
	for l, v := range order {
		now := s.Order()
		for at := slices.Index(now[:], v); at > l; at-- {
			if err := s.Swap(at - 1); err != nil {
				t.Fatal(err)
			}
		}
	}
	if s.Order() != order {
		t.Fatalf("the order is %v, not %v", s.Order(), order)
	}
	return s
}

// orders are the plain one, it turned, two that part neighbours, and some with no shape.
func orders() [][8]int {
	l := [][8]int{plain, {7, 6, 5, 4, 3, 2, 1, 0}, {0, 2, 4, 6, 1, 3, 5, 7}, {6, 0, 7, 1, 5, 2, 4, 3}}
	r := rand.New(rand.NewSource(21))
	for range 4 {
		l = append(l, [8]int(r.Perm(api.Vars)))
	}
	return l
}

// shapeless is any function.
func shapeless(r *rand.Rand) api.Func {
	return api.Func{r.Uint64(), r.Uint64(), r.Uint64(), r.Uint64()}
}

// simple is a function of some variables alone.
func simple(r *rand.Rand) api.Func {
	f := shapeless(r)
	for range r.Intn(8) {
		f = cof.Cof(f, r.Intn(8), r.Intn(2) == 1)
	}
	return f
}

// odd is the sum of all variables.
func odd() api.Func {
	f := no
	for v := range api.Vars {
		f = tab.Xor(f, tab.Var(v))
	}
	return f
}

// triples are three functions each: constants, variables and their opposites, some of one level alone, simple ones, and some of no shape, each in each place.
func triples() [][3]api.Func {
	r := rand.New(rand.NewSource(22))
	of := func() api.Func {
		v := r.Intn(8)
		switch r.Intn(9) {
		case 0:
			return tab.Const(v&1 == 1)
		case 1, 2:
			return tab.Var(v)
		case 3:
			return tab.Not(tab.Var(v))
		case 4:
			return tab.And(tab.Var(v), tab.Var(r.Intn(8)))
		case 5:
			return odd()
		case 6:
			return shapeless(r)
		}
		return simple(r)
	}
	l := [][3]api.Func{{tab.Var(3), tab.Var(0), tab.Var(1)}, {tab.Var(0), tab.Var(7), tab.Var(3)}, {odd(), tab.Var(0), tab.Var(7)}}
	for range 60 {
		l = append(l, [3]api.Func{of(), of(), of()})
	}
	return l
}

// view is all that can be seen of a store.
type view struct {
	order      [8]int
	live, room int
	nums       []int
	nodes      []api.Node
}

func look(s *store.Store) view {
	w := view{order: s.Order(), live: s.Live(), room: s.Room(), nums: s.All()}
	for _, n := range w.nums {
		is, _ := s.Node(n)
		w.nodes = append(w.nodes, is)
	}
	return w
}

func (w view) is(v view) bool {
	return w.order == v.order && w.live == v.live && w.room == v.room && slices.Equal(w.nums, v.nums) && slices.Equal(w.nodes, v.nodes)
}

// twins are two stores to which the same is done: what one is asked by a cache, the other is asked by the chapter's words.
// So what can't be seen of a store, the turn of the numbers that were given back, is held too, by what is made later.
type twins struct{ s, other *store.Store }

func newTwins(t *testing.T, most int, order [8]int) twins {
	t.Helper()
	return twins{inOrder(t, most, order), inOrder(t, most, order)}
}

// same holds all that can be seen of one against the other.
func (w twins) same(t *testing.T) {
	t.Helper()
	if is, want := look(w.s), look(w.other); !is.is(want) {
		t.Fatalf("the store is %v, not %v", is, want)
	}
}

// ask holds what Ite tells, and makes, against the chapter's words.
func (w twins) ask(t *testing.T, c *ite.Cache, f, g, h int) (int, error) {
	t.Helper()
	want, wantErr := promised(w.other, f, g, h)
	n, err := c.Ite(w.s, f, g, h)
	if n != want || err != wantErr {
		t.Fatalf("Ite(%d, %d, %d) tells %d, %v, not %d, %v", f, g, h, n, err, want, wantErr)
	}
	w.same(t)
	if is := chosen(walked(w.s, f), walked(w.s, g), walked(w.s, h)); err == nil && walked(w.s, n) != is {
		t.Fatalf("what Ite(%d, %d, %d) tells, %d, is %x, not %x", f, g, h, n, walked(w.s, n), is)
	}
	return n, err
}

// askIs holds ask against what is known of it.
func (w twins) askIs(t *testing.T, c *ite.Cache, f, g, h, want int, wantErr error) {
	t.Helper()
	if n, err := w.ask(t, c, f, g, h); n != want || err != wantErr {
		t.Fatalf("Ite(%d, %d, %d) tells %d, %v, not %d, %v", f, g, h, n, err, want, wantErr)
	}
}

// askStays holds askIs, and that nothing happens by it.
func (w twins) askStays(t *testing.T, c *ite.Cache, f, g, h, want int, wantErr error) {
	t.Helper()
	was := look(w.s)
	w.askIs(t, c, f, g, h, want, wantErr)
	if !look(w.s).is(was) {
		t.Fatalf("by Ite(%d, %d, %d) the store changes", f, g, h)
	}
}

// both asks both stores the same, and tells what the first tells.
func (w twins) both(t *testing.T, ask func(s *store.Store) (int, error)) (int, error) {
	t.Helper()
	n, err := ask(w.s)
	want, wantErr := ask(w.other)
	if n != want || err != wantErr {
		t.Fatalf("one store tells %d, %v, the other %d, %v", n, err, want, wantErr)
	}
	return n, err
}

func (w twins) mk(t *testing.T, v, lo, hi int) int {
	t.Helper()
	n, err := w.both(t, func(s *store.Store) (int, error) { return s.Mk(v, lo, hi) })
	if err != nil {
		t.Fatalf("Mk(%d, %d, %d) tells %v", v, lo, hi, err)
	}
	return n
}

func (w twins) build(t *testing.T, f api.Func) int {
	t.Helper()
	n, err := w.both(t, func(s *store.Store) (int, error) { return read.Build(s, f) })
	if err != nil {
		t.Fatalf("Build(%x) tells %v", f, err)
	}
	return n
}

func (w twins) buildAll(t *testing.T, l [3]api.Func) (int, int, int) {
	t.Helper()
	return w.build(t, l[0]), w.build(t, l[1]), w.build(t, l[2])
}

func (w twins) free(t *testing.T, n int) error {
	t.Helper()
	_, err := w.both(t, func(s *store.Store) (int, error) { return 0, s.Free(n) })
	return err
}

func (w twins) mustFree(t *testing.T, n int) {
	t.Helper()
	if err := w.free(t, n); err != nil {
		t.Fatalf("Free(%d) tells %v", n, err)
	}
}

func (w twins) swap(t *testing.T, l int) {
	t.Helper()
	w.both(t, func(s *store.Store) (int, error) { return 0, s.Swap(l) })
}

// fill makes nodes with no shape until there are so many.
func (w twins) fill(t *testing.T, r *rand.Rand, many int) {
	t.Helper()
	for w.s.Live() < many {
		v, l := r.Intn(8), append([]int{0, 1}, w.s.All()...)
		lo, hi := l[r.Intn(len(l))], l[r.Intn(len(l))]
		w.both(t, func(s *store.Store) (int, error) { return s.Mk(v, lo, hi) })
	}
}

// filled are stores of so many, with so many nodes with no shape, made in two orders.
func filled(t *testing.T, seed int64, most, many int) twins {
	t.Helper()
	r := rand.New(rand.NewSource(seed))
	w := newTwins(t, most, [8]int(r.Perm(api.Vars)))
	w.fill(t, r, many/2)
	for range 20 {
		w.swap(t, r.Intn(7))
	}
	w.fill(t, r, many)
	w.same(t)
	return w
}

// thin frees some of what no other has, and tells what was freed.
func (w twins) thin(t *testing.T) []int {
	t.Helper()
	var gone []int
	for _, n := range w.s.All() {
		if n%3 != 0 && w.free(t, n) == nil {
			gone = append(gone, n)
		}
	}
	return gone
}

// stores are of many kinds: without room, without nodes, with some, with no room left, with numbers given back.
func stores(t *testing.T) []twins {
	t.Helper()
	l := []twins{newTwins(t, 0, plain), newTwins(t, 1, plain), newTwins(t, 300, orders()[3])}
	l = append(l, filled(t, 31, 400, 80), filled(t, 32, 60, 60), filled(t, 33, 1, 1), filled(t, 34, 61, 60))
	w := filled(t, 35, 300, 90)
	w.thin(t)
	return append(l, w)
}

// known are the constants and the numbers of all nodes.
func (w twins) known() []int { return append([]int{0, 1}, w.s.All()...) }

// unknown are numbers that are neither a constant nor there, those that were freed too.
func (w twins) unknown() []int {
	l := slices.Clone(edges)
	for n := 2; n < 410; n++ {
		if _, ok := w.s.Node(n); !ok {
			l = append(l, n)
		}
	}
	return append(l, 20000, 20001)
}

// byHand is a store of so many in which x3, x0 and x1 are 2, 3 and 4; none has another.
func byHand(t *testing.T, most int, order [8]int) (twins, int, int, int) {
	t.Helper()
	w := newTwins(t, most, order)
	return w, w.mk(t, 3, 0, 1), w.mk(t, 0, 0, 1), w.mk(t, 1, 0, 1)
}

// made are the nodes of byHand, and what if x3 then x0 else x1 makes of them, from below: not x3, x1 and not x3; x1 or x3 (x3 is there); all.
var made = []api.Node{{Var: 3, Lo: 0, Hi: 1}, {Var: 0, Lo: 0, Hi: 1}, {Var: 1, Lo: 0, Hi: 1}, {Var: 3, Lo: 1, Hi: 0}, {Var: 1, Lo: 0, Hi: 5}, {Var: 1, Lo: 2, Hi: 1}, {Var: 0, Lo: 6, Hi: 7}}

// nodesAre holds all nodes that there are against what they should be.
func (w twins) nodesAre(t *testing.T, want []api.Node) {
	t.Helper()
	if is := look(w.s).nodes; !slices.Equal(is, want) {
		t.Fatalf("the nodes are %v, not %v", is, want)
	}
}

// P9.1: the chapter's example.
func TestExample(t *testing.T) {
	w := newTwins(t, 2, plain)
	x := w.mk(t, 0, 0, 1)
	w.askIs(t, ite.New(), x, 0, 1, 3, nil)
	w.nodesAre(t, []api.Node{{Var: 0, Lo: 0, Hi: 1}, {Var: 0, Lo: 1, Hi: 0}})
}

// P9.1: of constants one is told, be there room or none, and nothing happens.
func TestConstants(t *testing.T) {
	for _, w := range stores(t) {
		c := ite.New()
		for i, want := range []int{0, 1, 0, 1, 0, 0, 1, 1} {
			for range 2 {
				w.askStays(t, c, i>>2, i>>1&1, i&1, want, nil)
			}
		}
	}
}

// P9.1: where what is asked hangs on a constant the answer is one of the other two, be there room or none, and nothing happens.
func TestConstantsAmongNodes(t *testing.T) {
	for _, w := range stores(t) {
		c, l := ite.New(), w.known()
		for i, n := range l {
			m := l[i*7%len(l)]
			w.askStays(t, c, 1, n, m, n, nil)
			w.askStays(t, c, 0, n, m, m, nil)
			w.askStays(t, c, n, 1, 0, n, nil)
		}
	}
}

// P9.1: of the same node three times, as then and else, and as if and then or if and else with a constant, nothing happens.
func TestOneNodeTwiceOrThrice(t *testing.T) {
	for _, w := range stores(t) {
		c, l := ite.New(), w.known()
		for i, n := range l {
			m := l[i*11%len(l)]
			w.askStays(t, c, n, n, n, n, nil)
			w.askStays(t, c, m, n, n, n, nil)
			w.askStays(t, c, n, n, 0, n, nil)
			w.askStays(t, c, n, 1, n, n, nil)
			w.askStays(t, c, n, n, 1, 1, nil)
			w.askStays(t, c, n, 0, n, 0, nil)
		}
	}
}

// P9.1: of the same node as if and then, or as if and else, and another: it is and, or or of both.
func TestOneNodeAndAnother(t *testing.T) {
	w, c := filled(t, 36, 4000, 60), ite.New()
	l := w.known()
	for i, n := range l {
		m := l[i*13%len(l)]
		f, g := walked(w.s, n), walked(w.s, m)
		or, err := w.ask(t, c, n, n, m)
		if err != nil || walked(w.s, or) != tab.Or(f, g) {
			t.Fatalf("if and then %d, else %d: %d, %v", n, m, or, err)
		}
		and, err := w.ask(t, c, n, m, n)
		if err != nil || walked(w.s, and) != tab.And(f, g) {
			t.Fatalf("if and else %d, then %d: %d, %v", n, m, and, err)
		}
	}
}

// P9.1, R3, P1: each of the three in turn, two of them, and all are neither constants nor there, also where the answer wouldn't hang on it: ErrArg, and nothing is made.
func TestWrongNumbers(t *testing.T) {
	for _, w := range stores(t) {
		c, l := ite.New(), w.known()
		n, m := l[len(l)-1], l[len(l)/2]
		w.ask(t, c, n, m, 1)
		for _, bad := range w.unknown() {
			for _, q := range [][3]int{{bad, 0, 1}, {bad, n, n}, {bad, n, m}, {n, bad, m}, {0, bad, 1}, {1, bad, 0}, {n, m, bad}, {1, 0, bad}, {0, 1, bad}, {m, n, bad}, {bad, bad, n}, {bad, m, bad}, {1, bad, bad}, {bad, bad, bad}} {
				n, err := c.Ite(w.s, q[0], q[1], q[2])
				if n != 0 || err != api.ErrArg {
					t.Fatalf("Ite(%d, %d, %d) tells %d, %v", q[0], q[1], q[2], n, err)
				}
			}
		}
		w.same(t)
		w.ask(t, c, n, m, 1)
	}
}

// P9.1, R1: ErrArg also where there is no room for what would be made.
func TestWrongNumbersWithoutRoom(t *testing.T) {
	w, x3, x0, x1 := byHand(t, 3, plain)
	c := ite.New()
	for range 2 {
		w.askStays(t, c, x3, x0, x1, 0, api.ErrFull)
		w.askStays(t, c, 5, x0, x1, 0, api.ErrArg)
		w.askStays(t, c, x3, 5, x1, 0, api.ErrArg)
		w.askStays(t, c, x3, x0, 5, 0, api.ErrArg)
		w.askStays(t, c, x3, -1, 1, 0, api.ErrArg)
	}
}

// P9.1, P9.2: what was freed isn't there any more, in each of the three places, whatever was asked of it ahead; taken anew it is what it is then.
func TestWhatWasFreed(t *testing.T) {
	w, x3, x0, x1 := byHand(t, 9, plain)
	c := ite.New()
	n := w.mk(t, 6, 0, 1)
	w.askIs(t, c, n, 0, 1, 6, nil)
	w.askIs(t, c, x0, n, 0, 7, nil)
	w.askIs(t, c, x1, 1, n, 8, nil)
	w.mustFree(t, 7)
	w.mustFree(t, 8)
	w.mustFree(t, n)
	c.Flush()
	for range 2 {
		w.askStays(t, c, n, 0, 1, 0, api.ErrArg)
		w.askStays(t, c, x0, n, 0, 0, api.ErrArg)
		w.askStays(t, c, x1, 1, n, 0, api.ErrArg)
		w.askStays(t, c, n, x3, x3, 0, api.ErrArg)
	}
	if w.mk(t, 7, 1, 0) != n {
		t.Fatalf("the number taken anew isn't %d", n)
	}
	w.askIs(t, c, n, 0, 1, 8, nil)
	w.askIs(t, c, x0, n, 0, 7, nil)
	w.askIs(t, c, x1, 1, n, 9, nil)
}

// P9.1, R3: the nodes are made from below, Lo's ahead of Hi's; where there is no room what was made by then stays, and nothing else is made, asked again too.
func TestMakesFromBelow(t *testing.T) {
	for room := range 6 {
		w, x3, x0, x1 := byHand(t, 3+room, plain)
		c := ite.New()
		for i := range 4 {
			if room < 4 {
				w.askIs(t, c, x3, x0, x1, 0, api.ErrFull)
			} else {
				w.askIs(t, c, x3, x0, x1, 8, nil)
			}
			w.nodesAre(t, made[:3+min(room, 4)])
			if i == 2 {
				c.Flush()
			}
		}
	}
}

// P9.1: in another order another variable is the top, of all and of each part.
func TestByTheStoresOrder(t *testing.T) {
	w, x3, x0, x1 := byHand(t, 9, [8]int{3, 7, 2, 6, 1, 0, 4, 5})
	c := ite.New()
	w.askIs(t, c, x0, x3, x1, 8, nil)
	now := []api.Node{{Var: 0, Lo: 1, Hi: 0}, {Var: 1, Lo: 0, Hi: 5}, {Var: 1, Lo: 3, Hi: 1}, {Var: 3, Lo: 6, Hi: 7}}
	w.nodesAre(t, append(slices.Clone(made[:3]), now...))
	w.askIs(t, c, x3, x0, x1, 9, nil)
	w.nodesAre(t, append(append(slices.Clone(made[:3]), now...), api.Node{Var: 3, Lo: 4, Hi: 3}))
}

// P9.1: the numbers are those that the arena gives: those given back ahead of new ones, the last first.
func TestAtNumbersGivenBack(t *testing.T) {
	for _, flush := range []bool{false, true} {
		w, x3, x0, x1 := byHand(t, 9, plain)
		old := ite.New()
		for v := range 3 {
			w.askIs(t, old, w.mk(t, 5+v, 0, 1), 0, 1, 6+2*v, nil)
		}
		for _, n := range []int{9, 5, 7, 10, 6, 8} {
			w.mustFree(t, n)
		}
		c := ite.New()
		if flush {
			c = old
			c.Flush()
		}
		w.askIs(t, c, x3, x0, x1, 7, nil)
		for n, want := range map[int]api.Node{8: {Var: 3, Lo: 1, Hi: 0}, 6: {Var: 1, Lo: 0, Hi: 8}, 10: {Var: 1, Lo: 2, Hi: 1}, 7: {Var: 0, Lo: 6, Hi: 10}} {
			if is, _ := w.s.Node(n); is != want {
				t.Errorf("%d is %v, not %v", n, is, want)
			}
		}
	}
}

// P9.1: parts of what is needed are there, made by Mk or by a call ahead, kept or not: the rest is made, in its turn, and there must be room for just that.
func TestWhatIsThereInPart(t *testing.T) {
	for room := range 4 {
		for way := range 3 {
			w, x3, x0, x1 := byHand(t, 4+room, plain)
			c := ite.New()
			if way == 0 {
				w.mk(t, 1, x3, 1)
			} else {
				w.askIs(t, c, x3, 1, x1, 5, nil)
			}
			if way == 2 {
				c.Flush()
			}
			want := []api.Node{made[0], made[1], made[2], made[5], made[3], {Var: 1, Lo: 0, Hi: 6}, {Var: 0, Lo: 7, Hi: 5}}
			for range 2 {
				if room < 3 {
					w.askIs(t, c, x3, x0, x1, 0, api.ErrFull)
				} else {
					w.askIs(t, c, x3, x0, x1, 8, nil)
				}
				w.nodesAre(t, want[:4+room])
			}
		}
	}
}

// P9.1: what is there already is told, be there room or none, and nothing happens, whatever the three are: all triples of functions of two variables, in many orders, by caches that keep, that are flushed and that are new.
func TestWhatIsThere(t *testing.T) {
	for i, order := range orders()[:4] {
		s, kept, flushed := inOrder(t, 14, order), ite.New(), ite.New()
		var known [16]int
		for k := range known {
			f := table(func(x int) bool { return k>>(x>>i&1|x>>(7-i)&1<<1)&1 == 1 })
			known[k], _ = read.Build(s, f)
		}
		was := look(s)
		for k := range 16 * 16 * 16 {
			f, g, h := k>>8, k>>4&15, k&15
			want := known[f&g|^f&h&15]
			flushed.Flush()
			for _, c := range []*ite.Cache{kept, flushed, ite.New(), kept} {
				if n, err := c.Ite(s, known[f], known[g], known[h]); n != want || err != nil {
					t.Fatalf("Ite of functions %d, %d, %d tells %d, %v, not %d", f, g, h, n, err, want)
				}
			}
		}
		if !look(s).is(was) || s.Live() != 14 || s.Room() != 0 {
			t.Fatalf("the store is %v, not %v", look(s), was)
		}
	}
}

// P9.1: with room for just as many nodes as it needs Ite makes them, and with room for one less, for fewer, or for none, it does not; then what was made stays, and nothing else.
func TestWithLittleRoom(t *testing.T) {
	for i, l := range triples() {
		order := orders()[i%8]
		w := newTwins(t, 2000, order)
		f, g, h := w.buildAll(t, l)
		was := w.s.Live()
		if _, err := w.ask(t, ite.New(), f, g, h); err != nil {
			t.Fatal(err)
		}
		needs := w.s.Live() - was
		for _, room := range []int{needs, needs - 1, needs / 2, 1, 0} {
			if room < 0 {
				continue
			}
			w, c := newTwins(t, was+room, order), ite.New()
			w.buildAll(t, l)
			n, err := w.ask(t, c, f, g, h)
			if (err == nil) != (room >= needs) || w.s.Live() != was+min(room, needs) {
				t.Fatalf("%d needs %d, and with room for %d there are %d more, %v", i, needs, room, w.s.Live()-was, err)
			}
			w.askStays(t, c, f, g, h, n, err)
			c.Flush()
			w.askStays(t, c, f, g, h, n, err)
		}
	}
}

// P9.1: a function that is constant needs no room: if f then what f makes of it, or else what not f makes of it.
func TestWhereTheFunctionIsConstant(t *testing.T) {
	for _, order := range orders() {
		r := rand.New(rand.NewSource(23))
		w := newTwins(t, 1500, order)
		var l [][2]int
		for range 4 {
			f := simple(r)
			l = append(l, [2]int{w.build(t, f), w.build(t, tab.Not(f))})
		}
		c := ite.New()
		for _, p := range l {
			f, not := p[0], p[1]
			w.askStays(t, c, f, not, f, 0, nil)
			w.askStays(t, c, f, f, not, 1, nil)
			w.askStays(t, c, not, f, not, 0, nil)
			w.askStays(t, c, not, not, f, 1, nil)
			w.askStays(t, c, f, 0, 1, not, nil)
			w.askStays(t, c, not, 0, 1, f, nil)
		}
	}
}

// P9.3: asked again it is the same node, by the cache that keeps it, flushed, by another and by a new one, and nothing happens.
func TestAskedAgain(t *testing.T) {
	for i, l := range triples() {
		w, c, other := newTwins(t, 2000, orders()[i%8]), ite.New(), ite.New()
		f, g, h := w.buildAll(t, l)
		n, err := w.ask(t, c, f, g, h)
		if err != nil {
			t.Fatal(err)
		}
		for _, next := range []*ite.Cache{c, other, ite.New(), c, other} {
			w.askStays(t, next, f, g, h, n, nil)
		}
		c.Flush()
		w.askStays(t, c, f, g, h, n, nil)
		w.askStays(t, c, f, g, h, n, nil)
	}
}

// P9.3: which of the three is which isn't mixed up by what is kept: all ways to lay three nodes, once forth and once back.
func TestWhichIsWhich(t *testing.T) {
	w, c := newTwins(t, 400, plain), ite.New()
	w.build(t, tab.Xor(tab.Var(5), tab.Var(1)))
	w.build(t, tab.And(tab.Var(2), tab.Var(5)))
	w.build(t, tab.Or(tab.Not(tab.Var(0)), tab.Var(3)))
	l := w.known()
	many := len(l) * len(l) * len(l)
	for i := range 2 * many {
		k := min(i, 2*many-1-i)
		f, g, h := l[k%len(l)], l[k/len(l)%len(l)], l[k/len(l)/len(l)]
		want := chosen(read.Table(w.s, f), read.Table(w.s, g), read.Table(w.s, h))
		n, err := c.Ite(w.s, f, g, h)
		if err != nil || read.Table(w.s, n) != want {
			t.Fatalf("Ite(%d, %d, %d) tells %d, %v: %x, not %x", f, g, h, n, err, read.Table(w.s, n), want)
		}
	}
}

// caches are of three ways: one that is never flushed, one that always is, and one that some times is.
type caches struct{ kept, flushed, some *ite.Cache }

func newCaches() caches { return caches{ite.New(), ite.New(), ite.New()} }

// ask asks one of them, by what r tells.
func (l caches) ask(t *testing.T, r *rand.Rand, w twins, f, g, h int) (int, error) {
	t.Helper()
	l.flushed.Flush()
	if r.Intn(5) == 0 {
		l.some.Flush()
	}
	return w.ask(t, []*ite.Cache{l.kept, l.kept, l.flushed, l.some, ite.New()}[r.Intn(5)], f, g, h)
}

// flush flushes all.
func (l caches) flush() {
	l.kept.Flush()
	l.flushed.Flush()
	l.some.Flush()
}

// P9.1, P9.3: whatever was asked before, by this cache or by others on the same store, flushed or not, with exchanges of levels between, the answer, and what is made, is the same.
func TestWhateverWasAskedBefore(t *testing.T) {
	for seed := range int64(10) {
		r := rand.New(rand.NewSource(seed))
		w, l := newTwins(t, 4000, plain), newCaches()
		asked := map[[3]int]int{}
		for range 3 + seed%3 {
			w.build(t, simple(r))
		}
		for range 60 {
			k := w.known()
			f, g, h := k[r.Intn(len(k))], k[r.Intn(len(k))], k[r.Intn(len(k))]
			if n, err := l.ask(t, r, w, f, g, h); err == nil {
				asked[[3]int{f, g, h}] = n
			}
			if r.Intn(6) == 0 {
				w.swap(t, r.Intn(7))
			}
		}
		for q, n := range asked {
			for _, c := range []*ite.Cache{l.kept, l.some, ite.New()} {
				if m, err := c.Ite(w.s, q[0], q[1], q[2]); m != n || err != nil {
					t.Fatalf("Ite of %v was %d, and is %d, %v", q, n, m, err)
				}
			}
		}
		w.same(t)
	}
}

// P9.2, P9.3: a cache that keeps what came of calls ahead of exchanges of levels tells the same nodes behind them, of the same functions, and nothing happens; of what is asked anew all is made that is needed now, and no more.
func TestBehindExchanges(t *testing.T) {
	for i, l := range triples()[:40] {
		w, c := newTwins(t, 6000, plain), ite.New()
		f, g, h := w.buildAll(t, l)
		n, err := w.ask(t, c, f, g, h)
		if err != nil {
			t.Fatal(err)
		}
		for k := range 12 {
			w.swap(t, (k*5+i)%7)
			w.askStays(t, c, f, g, h, n, nil)
			w.ask(t, c, h, f, n)
			w.ask(t, c, n, g, f)
			w.ask(t, ite.New(), g, n, h)
		}
	}
}

// P9.2, P9.3: by hand: what is kept of x3, x0 and x1 reads as it did when x3 is the first level, and what is asked anew is made by that order.
func TestBehindExchangesByHand(t *testing.T) {
	w, x3, x0, x1 := byHand(t, 40, plain)
	c := ite.New()
	w.askIs(t, c, x3, x0, x1, 8, nil)
	for l := 2; l >= 0; l-- {
		w.swap(t, l)
	}
	if is, _ := w.s.Node(8); is != (api.Node{Var: 3, Lo: x1, Hi: x0}) {
		t.Fatalf("8 is %v", is)
	}
	w.askStays(t, c, x3, x0, x1, 8, nil)
	w.askStays(t, c, x3, x0, x1, 8, nil)
	n, err := w.ask(t, c, x3, x1, x0)
	if is, _ := w.s.Node(n); err != nil || is != (api.Node{Var: 3, Lo: x0, Hi: x1}) {
		t.Fatalf("%d is %v, %v", n, is, err)
	}
}

// P9.2: nodes are freed, and their numbers taken by others; behind Flush what was kept of them isn't told any more, of all nor of a part.
func TestFlushBehindFrees(t *testing.T) {
	w, x3, x0, x1 := byHand(t, 20, plain)
	c := ite.New()
	w.askIs(t, c, x3, x0, x1, 8, nil)
	for n := 8; n >= 5; n-- {
		w.mustFree(t, n)
	}
	for i, want := range []int{5, 6, 7, 8} {
		if n := w.mk(t, 7-i/2, i&1, 1-i&1); n != want {
			t.Fatalf("the number taken anew is %d, not %d", n, want)
		}
	}
	c.Flush()
	w.askIs(t, c, x3, x0, x1, 12, nil)
	w.askStays(t, c, x3, 0, 1, 9, nil)
	w.askStays(t, c, x3, 0, x1, 10, nil)
	w.askStays(t, c, x3, 1, x1, 11, nil)
	w.askIs(t, c, 8, x0, 0, 13, nil)
	w.mustFree(t, 13)
	w.mustFree(t, 8)
	if n, m := w.mk(t, 5, 0, 1), w.mk(t, 2, 0, 1); n != 8 || m != 13 {
		t.Fatalf("the numbers taken anew are %d and %d", n, m)
	}
	c.Flush()
	w.askIs(t, c, 8, x0, 0, 14, nil)
}

// P9.2: a cache that is flushed, and keeps nothing when nodes are freed, tells right answers then, too.
func TestFlushAheadOfFrees(t *testing.T) {
	for seed := range int64(6) {
		r := rand.New(rand.NewSource(seed))
		w, l := newTwins(t, 500, plain), newCaches()
		for range 30 {
			f := simple(r)
			w.both(t, func(s *store.Store) (int, error) { return read.Build(s, f) })
			k := w.known()
			for range 6 {
				l.ask(t, r, w, k[r.Intn(len(k))], k[r.Intn(len(k))], k[r.Intn(len(k))])
			}
			l.flush()
			for range 8 {
				w.thin(t)
			}
		}
	}
}

// P9.2: behind Flush another store is asked, in which the same numbers are other nodes, or aren't there; and behind another the first again.
func TestFlushAheadOfAnotherStore(t *testing.T) {
	l := stores(t)
	c := ite.New()
	for i := range 40 {
		w := l[i*3%len(l)]
		c.Flush()
		for f := range 6 {
			w.ask(t, c, f, f*5%7, f*3%8)
			w.ask(t, c, f, f*3%8, f*5%7)
		}
		for k := range 4 {
			w.swap(t, (k+i)%7)
			w.ask(t, c, 2, 3, 4)
		}
	}
}

// P9.2: one made anew is as one that was flushed: each store by its own, in turn.
func TestStoresWithCachesOfTheirOwn(t *testing.T) {
	l := append(stores(t), filled(t, 37, 900, 50))
	own := make([]*ite.Cache, len(l))
	for i := range own {
		own[i] = ite.New()
	}
	r := rand.New(rand.NewSource(24))
	for range 600 {
		i := r.Intn(len(l))
		k := append(l[i].known(), 2, 3, 4)
		l[i].ask(t, own[i], k[r.Intn(len(k))], k[r.Intn(len(k))], k[r.Intn(len(k))])
	}
	for _, w := range l {
		w.same(t)
	}
}

// P9.2, P9.3: of two caches beside each other on one store each tells right answers, be the other flushed or not; behind frees each that was flushed.
func TestTwoCachesOnOneStore(t *testing.T) {
	w, x3, x0, x1 := byHand(t, 30, plain)
	a, b := ite.New(), ite.New()
	w.askIs(t, a, x3, x0, x1, 8, nil)
	w.askStays(t, b, x3, x0, x1, 8, nil)
	b.Flush()
	w.askStays(t, a, x3, x0, x1, 8, nil)
	w.askStays(t, b, x3, x0, x1, 8, nil)
	a.Flush()
	w.mustFree(t, 8)
	b.Flush()
	if w.mk(t, 2, 1, 0) != 8 {
		t.Fatal("the number taken anew isn't 8")
	}
	w.askIs(t, b, x3, x0, x1, 9, nil)
	w.askStays(t, a, x3, x0, x1, 9, nil)
	for l := range 7 {
		w.swap(t, l)
		w.askStays(t, b, x3, x0, x1, 9, nil)
		w.ask(t, a, 8, 9, x1)
		w.ask(t, b, 9, 8, x1)
		w.ask(t, b, 8, 9, x1)
	}
}

// P9.1, P9.2: where there was no room it goes on, from what was made, as soon as there is some.
func TestGoesOnWithRoom(t *testing.T) {
	w, x3, x0, x1 := byHand(t, 6, plain)
	spare := w.mk(t, 7, 0, 1)
	c := ite.New()
	w.askIs(t, c, x3, x0, x1, 0, api.ErrFull)
	w.askStays(t, c, x3, x0, x1, 0, api.ErrFull)
	w.askStays(t, c, x3, 0, x1, 7, nil)
	w.mustFree(t, spare)
	c.Flush()
	w.askIs(t, c, x3, x0, x1, 0, api.ErrFull)
	w.askStays(t, c, x3, 1, x1, spare, nil)
	w.askStays(t, c, x3, x0, x1, 0, api.ErrFull)
}

// P9.1, P9.3: stores are filled up by a cache that is never flushed; what there is no room for is told so, and then all that was told is told again.
func TestUntilThereIsNoRoom(t *testing.T) {
	for i, most := range []int{40, 700, 5000, 20000} {
		r := rand.New(rand.NewSource(int64(i)))
		s, c := inOrder(t, most, orders()[i+2]), ite.New()
		told := map[api.Func]int{no: 0, yes: 1}
		roots := []int{0, 1}
		for v := range api.Vars {
			n, _ := s.Mk(v, 0, 1)
			roots = append(roots, n)
		}
		for tries := 0; s.Room() > 0 && tries < 50000; tries++ {
			f, g, h := roots[r.Intn(len(roots))], roots[r.Intn(len(roots))], roots[r.Intn(len(roots))]
			n, err := c.Ite(s, f, g, h)
			if err == api.ErrFull {
				continue
			}
			if err != nil {
				t.Fatalf("Ite(%d, %d, %d) tells %v", f, g, h, err)
			}
			is := chosen(read.Table(s, f), read.Table(s, g), read.Table(s, h))
			if was, ok := told[is]; read.Table(s, n) != is || ok && was != n {
				t.Fatalf("Ite(%d, %d, %d) tells %d, ahead of that %d", f, g, h, n, was)
			}
			told[is] = n
			roots = append(roots, n)
		}
		if s.Live() != most || len(roots) < most/100 {
			t.Fatalf("of %d there are %d, of %d answers", most, s.Live(), len(roots))
		}
		for f, n := range told {
			if m, err := c.Ite(s, n, 1, 0); m != n || err != nil || read.Table(s, n) != f {
				t.Fatalf("%d is %d, %v", n, m, err)
			}
		}
	}
}

// P9.3: a cache that nobody flushes tells right answers, however much it was asked: all triples of many functions of three variables, each in its turn.
func TestAskedVeryMuch(t *testing.T) {
	s, c := store.New(300), ite.New()
	var known [60]int
	for i := range known {
		known[i], _ = read.Build(s, table(func(x int) bool { return (i*17+6)%256>>(x>>2&7)&1 == 1 }))
	}
	for i := range 60 * 60 * 60 {
		f, g, h := known[i%60], known[i/60%60], known[i/3600]
		n, err := c.Ite(s, f, g, h)
		if is := tab.Ite(read.Table(s, f), read.Table(s, g), read.Table(s, h)); err != nil || read.Table(s, n) != is {
			t.Fatalf("Ite(%d, %d, %d) tells %d, %v, not %x", f, g, h, n, err, is)
		}
	}
}

// P9.1 to P9.3, P1: long ways with no shape of asks, exchanges, frees and flushes, in stores of little and of much room.
func TestLongWays(t *testing.T) {
	for seed := range int64(20) {
		r := rand.New(rand.NewSource(seed + 100))
		w, l := newTwins(t, []int{3, 20, 90, 300, 1500}[seed%5], plain), newCaches()
		for range 120 {
			step(t, r, w, l)
			w.same(t)
		}
	}
}

// step does anything to both stores. Behind frees all caches are flushed.
func step(t *testing.T, r *rand.Rand, w twins, l caches) {
	t.Helper()
	some := func() int { return r.Intn(w.s.Live()+5) - 1 }
	switch r.Intn(8) {
	case 0:
		f := simple(r)
		w.both(t, func(s *store.Store) (int, error) { return read.Build(s, f) })
	case 1:
		v := r.Intn(8)
		w.both(t, func(s *store.Store) (int, error) { return s.Mk(v, 0, 1) })
	case 2:
		w.swap(t, r.Intn(7))
	case 3:
		for range 9 {
			w.free(t, some())
		}
		l.flush()
	default:
		l.ask(t, r, w, some(), some(), some())
	}
}

// P1, P9.1 to P9.3: no argument makes a call panic, and all is as the chapter's words tell it.
func FuzzAllArguments(f *testing.F) {
	for i, n := range append([]int{0, 1, 2, 3, 7, 255}, edges...) {
		f.Add(i*7%130, n, i%5, edges[(i+5)%len(edges)], uint64(0x123456789abcdef0), ^uint64(0), uint64(1)<<63, []byte{1, 2, 90, 30, 60, 200, 150, 3, 4, 77, 6, 9, 0, 255})
	}
	f.Fuzz(func(t *testing.T, most, n, m, k int, a, b, c uint64, ways []byte) {
		w, kept, other := newTwins(t, most&127, plain), ite.New(), ite.New()
		g := api.Func{a, b, c, a ^ b}
		for i, way := range ways[:min(len(ways), 60)] {
			j := int(way >> 3)
			switch way & 7 {
			case 0:
				w.swap(t, j&7)
			case 1:
				w.free(t, j+i)
				kept.Flush()
				other.Flush()
			case 2:
				other.Flush()
			case 3:
				w.both(t, func(s *store.Store) (int, error) { return read.Build(s, cof.Cof(g, j&7, j > 7)) })
				g = api.Func{g[3], g[0] ^ a, g[1] + b, g[2]}
			case 4:
				w.ask(t, other, j, i, j+i)
			default:
				w.ask(t, kept, j, (j+i)%17, j*i%31)
			}
		}
		for _, q := range [][3]int{{n, m, k}, {k, n, m}, {m, k, n}, {m, m, n}, {m, 3, 2}} {
			w.ask(t, kept, q[0], q[1], q[2])
			w.ask(t, other, q[0], q[1], q[2])
		}
	})
}

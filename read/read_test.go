package read

import (
	"bower/api"
	"bower/cof"
	"bower/store"
	"bower/tab"
	"math"
	"math/rand"
	"slices"
	"testing"
)

// edges are numbers that are no node's and no constant's: the nearest, those that wrap onto right ones, the least and the greatest.
var edges = []int{-1, -2, -3, -8, -64, 20002, 20003, 65536, 65538, 1<<31 - 1, 1 << 31, -1 << 31, 1 << 32, 1<<32 + 1, 1<<32 + 2, 1<<32 + 3, -1 << 32, 2 - 1<<32, 1 << 62, -1 << 62, math.MaxInt - 1, math.MaxInt, math.MinInt, math.MinInt + 1, math.MinInt + 2, math.MinInt + 3, math.MinInt + 4}

// notRows are the nearest wrong numbers, those that wrap onto rows, the least and the greatest.
var notRows = []int{-1, -2, -64, -255, -256, -257, 256, 257, 319, 511, 512, 65536, 1 << 32, 1<<32 + 1, -1 << 32, 255 - 1<<32, math.MaxInt, math.MaxInt - 1, math.MinInt, math.MinInt + 1, math.MinInt + 255}

var (
	no, yes = tab.Const(false), tab.Const(true)
	plain   = [8]int{0, 1, 2, 3, 4, 5, 6, 7}
)

// bit reads the table as chapter 1 lays it out.
func bit(f api.Func, x int) bool { return f[x/64]&(uint64(1)<<(x%64)) != 0 }

// table lays a function out row by row.
func table(value func(x int) bool) api.Func {
	var f api.Func
	for x := range api.Rows {
		if value(x) {
			f[x/64] |= 1 << (x % 64)
		}
	}
	return f
}

// walk is chapter 7's words of a node's function: in a row Hi's value, if its variable's is 1, else Lo's.
func walk(s *store.Store, n, x int) bool {
	for {
		is, ok := s.Node(n)
		switch {
		case !ok:
			return n == 1
		case x>>is.Var&1 == 1:
			n = is.Hi
		default:
			n = is.Lo
		}
	}
}

// walked is walk of all rows.
func walked(s *store.Store, n int) api.Func {
	return table(func(x int) bool { return walk(s, n, x) })
}

// rowAt is the i-th row where the last level's variable changes fastest.
func rowAt(order [8]int, i int) int {
	x := 0
	for l, v := range order {
		x |= i >> (7 - l) & 1 << v
	}
	return x
}

// lay builds f by Mk alone, from its rows in turn, the last level's variable changing fastest: behind two that are done comes Mk of both.
// Of two that are one Mk makes nothing, so that what is made, and in which order, is what is promised of Build.
func lay(s *store.Store, f api.Func) (int, error) {
	order := s.Order()
	var done []int
	for i := range api.Rows {
		n := 0
		if bit(f, rowAt(order, i)) {
			n = 1
		}
		done = append(done, n)
		for l := 7; l >= 0 && i>>(7-l)&1 == 1; l-- {
			k := len(done) - 2
			n, err := s.Mk(order[l], done[k], done[k+1])
			if err != nil {
				return 0, err
			}
			done = append(done[:k], n)
		}
	}
	return done[0], nil
}

// needed is how many nodes f needs in an order, by a store that has room for all.
func needed(t *testing.T, f api.Func, order [8]int) int {
	t.Helper()
	s := inOrder(t, 255, order)
	if _, err := lay(s, f); err != nil {
		t.Fatal(err)
	}
	return s.Live()
}

// inOrder is a store of so many, without nodes, whose levels were exchanged until the order is the one that is asked.
func inOrder(t *testing.T, most int, order [8]int) *store.Store {
	t.Helper()
	s := store.New(most)
	for l, v := range order {
		now := s.Order()
		for at := slices.Index(now[:], v); at > l; at-- {
			if err := s.Swap(at - 1); err != nil {
				t.Fatal(err)
			}
		}
	}
	if s.Order() != order {
		t.Fatalf("the order is %v, not %v", s.Order(), order)
	}
	return s
}

// orders are the plain one, it turned, two that part neighbours, and some with no shape.
func orders() [][8]int {
	l := [][8]int{plain, {7, 6, 5, 4, 3, 2, 1, 0}, {0, 2, 4, 6, 1, 3, 5, 7}, {6, 0, 7, 1, 5, 2, 4, 3}}
	r := rand.New(rand.NewSource(12))
	for range 4 {
		l = append(l, [8]int(r.Perm(api.Vars)))
	}
	return l
}

// samples has the constants, the variables and their opposites, functions true in one row alone (or in all others), whole words, sums, and some of no shape.
func samples() []api.Func {
	l := []api.Func{no, yes}
	for v := range api.Vars {
		l = append(l, tab.Var(v), tab.Not(tab.Var(v)))
	}
	for _, y := range []int{0, 1, 37, 100, 254, 255} {
		f := table(func(x int) bool { return x == y })
		l = append(l, f, tab.Not(f))
	}
	all := ^uint64(0)
	l = append(l, api.Func{all}, api.Func{0, all}, api.Func{0, 0, all}, api.Func{0, 0, 0, all})
	l = append(l, table(func(x int) bool { return x%16 < x/16 }), table(func(x int) bool { return x&3 == 3 || x&12 == 12 || x&48 == 48 }), odd())
	r := rand.New(rand.NewSource(13))
	for range 6 {
		l = append(l, shapeless(r))
	}
	return l
}

// odd is the sum of all variables.
func odd() api.Func {
	f := no
	for v := range api.Vars {
		f = tab.Xor(f, tab.Var(v))
	}
	return f
}

// shapeless is any function.
func shapeless(r *rand.Rand) api.Func {
	return api.Func{r.Uint64(), r.Uint64(), r.Uint64(), r.Uint64()}
}

// simple is a function of some variables alone.
func simple(r *rand.Rand) api.Func {
	f := shapeless(r)
	for range r.Intn(8) {
		f = cof.Cof(f, r.Intn(8), r.Intn(2) == 1)
	}
	return f
}

// view is all that can be seen of a store.
type view struct {
	order      [8]int
	live, room int
	nums       []int
	nodes      []api.Node
}

func look(s *store.Store) view {
	w := view{order: s.Order(), live: s.Live(), room: s.Room(), nums: s.All()}
	for _, n := range w.nums {
		is, _ := s.Node(n)
		w.nodes = append(w.nodes, is)
	}
	return w
}

func (w view) is(v view) bool {
	return w.order == v.order && w.live == v.live && w.room == v.room && slices.Equal(w.nums, v.nums) && slices.Equal(w.nodes, v.nodes)
}

// twins are two stores to which the same is done: what one is asked by this package, the other is asked by the chapter's words.
// So what can't be seen of a store, the turn of the numbers that were given back, is held too, by what is made later.
type twins struct{ s, other *store.Store }

// same holds all that can be seen of one against the other.
func (w twins) same(t *testing.T) {
	t.Helper()
	if is, want := look(w.s), look(w.other); !is.is(want) {
		t.Fatalf("the store is %v, not %v", is, want)
	}
}

// build holds what Build tells, and makes, against the chapter's words.
func (w twins) build(t *testing.T, f api.Func) (int, error) {
	t.Helper()
	want, wantErr := lay(w.other, f)
	n, err := Build(w.s, f)
	if n != want || err != wantErr {
		t.Fatalf("Build(%x) tells %d, %v, not %d, %v", f, n, err, want, wantErr)
	}
	w.same(t)
	if err == nil && (walked(w.s, n) != f || Table(w.s, n) != f) {
		t.Fatalf("what was built, %d, reads as %x, not as %x", n, Table(w.s, n), f)
	}
	return n, err
}

// buildIs holds build against what is known of it.
func (w twins) buildIs(t *testing.T, f api.Func, want int, wantErr error) {
	t.Helper()
	if n, err := w.build(t, f); n != want || err != wantErr {
		t.Fatalf("Build(%x) tells %d, %v, not %d, %v", f, n, err, want, wantErr)
	}
}

// buildMakes builds what there is room for, and holds how many nodes are made by it.
func (w twins) buildMakes(t *testing.T, f api.Func, want int) int {
	t.Helper()
	was := w.s.Live()
	n, err := w.build(t, f)
	if err != nil || w.s.Live()-was != want {
		t.Fatalf("Build(%x) makes %d nodes, not %d: %v", f, w.s.Live()-was, want, err)
	}
	return n
}

// both asks both stores the same, and tells what the first tells.
func (w twins) both(t *testing.T, ask func(s *store.Store) (int, error)) (int, error) {
	t.Helper()
	n, err := ask(w.s)
	want, wantErr := ask(w.other)
	if n != want || err != wantErr {
		t.Fatalf("one store tells %d, %v, the other %d, %v", n, err, want, wantErr)
	}
	return n, err
}

func (w twins) mk(t *testing.T, v, lo, hi int) int {
	t.Helper()
	n, err := w.both(t, func(s *store.Store) (int, error) { return s.Mk(v, lo, hi) })
	if err != nil {
		t.Fatalf("Mk(%d, %d, %d) tells %v", v, lo, hi, err)
	}
	return n
}

func (w twins) free(t *testing.T, n int) error {
	t.Helper()
	_, err := w.both(t, func(s *store.Store) (int, error) { return 0, s.Free(n) })
	return err
}

func (w twins) swap(t *testing.T, l int) error {
	t.Helper()
	_, err := w.both(t, func(s *store.Store) (int, error) { return 0, s.Swap(l) })
	return err
}

func newTwins(t *testing.T, most int, order [8]int) twins {
	t.Helper()
	return twins{inOrder(t, most, order), inOrder(t, most, order)}
}

// fill makes nodes with no shape until there are so many.
func (w twins) fill(t *testing.T, r *rand.Rand, many int) {
	t.Helper()
	for w.s.Live() < many {
		v, l := r.Intn(8), append([]int{0, 1}, w.s.All()...)
		lo, hi := l[r.Intn(len(l))], l[r.Intn(len(l))]
		w.both(t, func(s *store.Store) (int, error) { return s.Mk(v, lo, hi) })
	}
}

// filled are stores of so many, with so many nodes with no shape, made in two orders.
func filled(t *testing.T, seed int64, most, many int) twins {
	t.Helper()
	r := rand.New(rand.NewSource(seed))
	w := newTwins(t, most, [8]int(r.Perm(api.Vars)))
	w.fill(t, r, many/2)
	for range 20 {
		w.swap(t, r.Intn(7))
	}
	w.fill(t, r, many)
	w.same(t)
	return w
}

// thin frees what nothing has, and tells what was freed.
func (w twins) thin(t *testing.T) []int {
	t.Helper()
	var gone []int
	for _, n := range w.s.All() {
		if n%3 != 0 && w.free(t, n) == nil {
			gone = append(gone, n)
		}
	}
	return gone
}

// stores are of many kinds: without room, without nodes, with some, with no room left, with numbers given back.
func stores(t *testing.T) []twins {
	t.Helper()
	l := []twins{newTwins(t, 0, plain), newTwins(t, 1, plain), newTwins(t, 300, plain), newTwins(t, 300, orders()[3])}
	l = append(l, filled(t, 1, 400, 80), filled(t, 2, 60, 60), filled(t, 3, 1, 1), filled(t, 4, 61, 60))
	w := filled(t, 5, 300, 90)
	w.thin(t)
	return append(l, w)
}

// none are numbers that are neither a constant nor there.
func (w twins) none() []int {
	l := slices.Clone(edges)
	for n := 2; n < 410; n++ {
		if _, ok := w.s.Node(n); !ok {
			l = append(l, n)
		}
	}
	return append(l, 20000, 20001)
}

// reads holds all that is told of n against a function.
func reads(t *testing.T, s *store.Store, n int, f api.Func) {
	t.Helper()
	if got := Table(s, n); got != f {
		t.Fatalf("Table(%d) is %x, not %x", n, got, f)
	}
	many, support := 0, 0
	for x := range api.Rows {
		if Value(s, n, x) != bit(f, x) {
			t.Fatalf("Value(%d, %d) isn't %v", n, x, bit(f, x))
		}
		if bit(f, x) {
			many++
		}
		for v := range api.Vars {
			if bit(f, x) != bit(f, x^1<<v) {
				support |= 1 << v
			}
		}
	}
	if Count(s, n) != many || Support(s, n) != support {
		t.Fatalf("%d is true in %d rows and depends on %08b, not %d and %08b", n, Count(s, n), Support(s, n), many, support)
	}
	for _, x := range notRows {
		if Value(s, n, x) {
			t.Fatalf("Value(%d, %d) is true, and that is no row", n, x)
		}
	}
}

// P8.1: all nodes, and the constants, of stores of all kinds, in the order of their making and behind exchanges of levels; nothing changes by it.
func TestReadings(t *testing.T) {
	for _, w := range stores(t) {
		for range 3 {
			was := look(w.s)
			reads(t, w.s, 0, no)
			reads(t, w.s, 1, yes)
			for _, n := range w.s.All() {
				reads(t, w.s, n, walked(w.s, n))
			}
			if !look(w.s).is(was) {
				t.Fatal("by reading the store changes")
			}
			for l := range 7 {
				w.swap(t, l)
			}
		}
	}
}

// P8.1: nodes whose functions are known, Lo told from Hi; behind exchanges of levels each number reads the same.
func TestReadingsOfKnownNodes(t *testing.T) {
	s := store.New(100)
	known := map[int]api.Func{0: no, 1: yes}
	for v := range api.Vars {
		n, _ := s.Mk(v, 0, 1)
		m, _ := s.Mk(v, 1, 0)
		known[n], known[m] = tab.Var(v), tab.Not(tab.Var(v))
	}
	for v := range api.Vars - 1 {
		below, _ := s.Mk(v+1, 0, 1)
		apart, _ := s.Mk(v+1, 1, 0)
		and, _ := s.Mk(v, 0, below)
		less, _ := s.Mk(v, below, 0)
		xor, _ := s.Mk(v, below, apart)
		known[and] = table(func(x int) bool { return x>>v&3 == 3 })
		known[less] = table(func(x int) bool { return x>>v&3 == 2 })
		known[xor] = table(func(x int) bool { return x>>v&3 == 1 || x>>v&3 == 2 })
	}
	for l := range 7 {
		for n, f := range known {
			reads(t, s, n, f)
		}
		if err := s.Swap(l); err != nil {
			t.Fatal(err)
		}
	}
}

// P8.1: where there are eight levels of nodes, two on each, every row leads its own way.
func TestReadingsOfAllLevels(t *testing.T) {
	for _, order := range orders() {
		s := inOrder(t, 20, order)
		even, uneven := 1, 0
		for _, v := range slices.Backward(order[:]) {
			a, _ := s.Mk(v, even, uneven)
			b, _ := s.Mk(v, uneven, even)
			even, uneven = a, b
		}
		reads(t, s, uneven, odd())
		reads(t, s, even, tab.Not(odd()))
	}
}

// P8.1, R3: the constants read as they are in a store without nodes and without room, too.
func TestConstants(t *testing.T) {
	for _, most := range []int{0, 1, 20000} {
		s := store.New(most)
		reads(t, s, 0, no)
		reads(t, s, 1, yes)
		if Count(s, 0) != 0 || Count(s, 1) != 256 || Support(s, 0) != 0 || Support(s, 1) != 0 {
			t.Errorf("%d and %d rows, %d and %d variables", Count(s, 0), Count(s, 1), Support(s, 0), Support(s, 1))
		}
		if !Value(s, 1, 0) || !Value(s, 1, 255) || Value(s, 1, 256) || Value(s, 1, -1) || Value(s, 0, 0) || Value(s, 0, 255) {
			t.Error("a constant's value")
		}
	}
}

// P8.1, R3, P1: what isn't there, was freed, or is the least or the greatest number is all false.
func TestReadingsOfWhatIsNotThere(t *testing.T) {
	for _, w := range stores(t) {
		was := look(w.s)
		for _, n := range w.none() {
			if Table(w.s, n) != no || Count(w.s, n) != 0 || Support(w.s, n) != 0 {
				t.Fatalf("%d, which isn't there, is %x, true in %d rows, and depends on %08b", n, Table(w.s, n), Count(w.s, n), Support(w.s, n))
			}
			for _, x := range append([]int{0, 1, 63, 64, 128, 255}, notRows...) {
				if Value(w.s, n, x) {
					t.Fatalf("Value(%d, %d) is true", n, x)
				}
			}
		}
		if !look(w.s).is(was) {
			t.Fatal("by reading what isn't there the store changes")
		}
	}
}

// P8.1: what was freed reads as nothing at once, and as what it is when its number was taken anew.
func TestReadingsOfWhatWasFreed(t *testing.T) {
	s := store.New(3)
	n, _ := s.Mk(4, 0, 1)
	reads(t, s, n, tab.Var(4))
	s.Free(n)
	reads(t, s, n, no)
	if l := Reach(s, []int{n}); len(l) != 0 {
		t.Errorf("what was freed is reached: %v", l)
	}
	m, _ := s.Mk(5, 1, 0)
	if m != n {
		t.Fatalf("the number taken anew is %d", m)
	}
	reads(t, s, n, tab.Not(tab.Var(5)))
}

// reached is what P8.1 says of Reach: the nodes among roots, and again and again their Lo and Hi, until there is no other.
func reached(s *store.Store, roots []int) []int {
	met := map[int]bool{}
	for _, n := range roots {
		met[n] = true
	}
	for more := true; more; {
		more = false
		for _, n := range s.All() {
			is, _ := s.Node(n)
			if met[n] && !(met[is.Lo] && met[is.Hi]) {
				met[is.Lo], met[is.Hi], more = true, true, true
			}
		}
	}
	return slices.DeleteFunc(s.All(), func(n int) bool { return !met[n] })
}

// reachIs holds Reach against what it should be, and that neither the roots, nor what lies behind them in one array, nor the store change.
func reachIs(t *testing.T, s *store.Store, roots, want []int) {
	t.Helper()
	whole := append(slices.Clone(roots), slices.Repeat([]int{-77}, len(want)+9)...)
	was, kept := look(s), slices.Clone(whole)
	if l := Reach(s, whole[:len(roots)]); !slices.Equal(l, want) {
		t.Fatalf("Reach(%v) is %v, not %v", roots, l, want)
	}
	if !slices.Equal(whole, kept) || !look(s).is(was) {
		t.Fatalf("by Reach(%v) the roots, and what lies behind them, are %v, or the store changes", roots, whole)
	}
}

// P8.1: by hand: 5 and 6 share 2; 4 stands alone; 7 has 5 and 6.
func TestReach(t *testing.T) {
	s := store.New(20)
	for want, is := range []api.Node{{Var: 7, Lo: 0, Hi: 1}, {Var: 6, Lo: 1, Hi: 0}, {Var: 3, Lo: 0, Hi: 1}, {Var: 5, Lo: 2, Hi: 3}, {Var: 5, Lo: 1, Hi: 2}, {Var: 2, Lo: 6, Hi: 5}} {
		if n, err := s.Mk(is.Var, is.Lo, is.Hi); n != want+2 || err != nil {
			t.Fatal(n, err)
		}
	}
	for _, c := range []struct{ roots, want []int }{
		{[]int{}, nil},
		{[]int{0}, nil},
		{[]int{1}, nil},
		{[]int{1, 0, 1, 0}, nil},
		{[]int{8}, nil},
		{edges, nil},
		{[]int{2}, []int{2}},
		{[]int{4}, []int{4}},
		{[]int{5}, []int{2, 3, 5}},
		{[]int{6}, []int{2, 6}},
		{[]int{7}, []int{2, 3, 5, 6, 7}},
		{[]int{4, 4}, []int{4}},
		{[]int{6, 5, 6, 5}, []int{2, 3, 5, 6}},
		{[]int{6, 2}, []int{2, 6}},
		{[]int{2, 6}, []int{2, 6}},
		{[]int{5, 7}, []int{2, 3, 5, 6, 7}},
		{[]int{7, 5}, []int{2, 3, 5, 6, 7}},
		{[]int{6, 4, 3}, []int{2, 3, 4, 6}},
		{[]int{7, 6, 5, 4, 3, 2, 1, 0}, []int{2, 3, 4, 5, 6, 7}},
		{[]int{8, 1, 4, -1, 0, 9, 4}, []int{4}},
		{append([]int{6}, edges...), []int{2, 6}},
		{append(slices.Clone(edges), 6), []int{2, 6}},
	} {
		reachIs(t, s, c.roots, c.want)
	}
	if l := Reach(s, nil); len(l) != 0 {
		t.Errorf("without roots there are %v", l)
	}
	s.Free(7)
	reachIs(t, s, []int{7}, nil)
	reachIs(t, s, []int{6, 7}, []int{2, 6})
}

// P8.1: of each number alone, of all, and of some with no shape, oftener what is there, in stores of all kinds.
func TestReachOfAny(t *testing.T) {
	r := rand.New(rand.NewSource(14))
	for _, w := range stores(t) {
		all := w.s.All()
		reachIs(t, w.s, all, all)
		reachIs(t, w.s, w.none(), nil)
		for _, n := range append(slices.Clone(all), 0, 1) {
			reachIs(t, w.s, []int{n}, reached(w.s, []int{n}))
		}
		some := append(append(slices.Clone(all), all...), w.none()[:20]...)
		for range 50 {
			roots := make([]int, r.Intn(8))
			for i := range roots {
				roots[i] = some[r.Intn(len(some))]
			}
			reachIs(t, w.s, roots, reached(w.s, roots))
		}
		w.same(t)
	}
}

// P8.1: Reach follows what the nodes are now, behind exchanges of levels.
func TestReachBehindExchanges(t *testing.T) {
	w := filled(t, 15, 2000, 60)
	roots := w.s.All()[:7]
	for i := range 30 {
		w.swap(t, i*5%7)
		reachIs(t, w.s, roots, reached(w.s, roots))
	}
}

// P8.1, R2: the roots stay as they are, and so does what lies behind them; what was handed out is new memory, and isn't changed by later calls.
func TestWhatIsHandedInAndOut(t *testing.T) {
	w := filled(t, 16, 2000, 60)
	all := w.s.All()
	whole := []int{all[50], all[3], 1, all[50], -5, all[20], all[1], all[0], all[30]}
	kept := slices.Clone(whole)
	first, second := Reach(w.s, whole[:5]), Reach(w.s, whole[:5])
	keptFirst := slices.Clone(first)
	if !slices.Equal(whole, kept) {
		t.Fatalf("behind Reach the roots, and what is behind them, are %v, not %v", whole, kept)
	}
	for i := range second {
		second[i] = -9
	}
	_ = append(second[:len(second):cap(second)], 7)
	for l := range 7 {
		w.swap(t, l)
		Reach(w.s, all)
		Reach(w.s, whole[5:])
		w.build(t, odd())
	}
	w.thin(t)
	if !slices.Equal(first, keptFirst) || !slices.Equal(whole, kept) {
		t.Fatal("what was handed out or in is changed by later calls, or by a change of another list")
	}
	is := Reach(w.s, first)
	for i := range first {
		first[i] = 2
	}
	if !slices.Equal(is, reached(w.s, keptFirst)) {
		t.Fatalf("Reach is %v, not %v", is, reached(w.s, keptFirst))
	}
	told := w.s.All()
	now := Reach(w.s, told)
	for i := range now {
		now[i] = 0
	}
	if !slices.Equal(told, w.s.All()) {
		t.Fatal("what was handed in is told again")
	}
	w.same(t)
}

// P8.2: the chapter's example.
func TestExample(t *testing.T) {
	w := newTwins(t, 9, plain)
	w.buildIs(t, tab.And(tab.Var(0), tab.Var(1)), 3, nil)
	if w.s.Live() != 2 {
		t.Errorf("there are %d nodes", w.s.Live())
	}
}

// P8.2: of a constant that one is told, be there room or none, and nothing is made.
func TestBuildOfConstants(t *testing.T) {
	for _, w := range stores(t) {
		was := look(w.s)
		for range 2 {
			w.buildIs(t, no, 0, nil)
			w.buildIs(t, yes, 1, nil)
		}
		if !look(w.s).is(was) {
			t.Fatal("by Build of a constant the store changes")
		}
	}
}

// P8.2: of a variable, and of its opposite, one node is made, in every order.
func TestBuildOfVariables(t *testing.T) {
	for _, order := range orders() {
		w := newTwins(t, 16, order)
		for v := range api.Vars {
			w.buildIs(t, tab.Var(v), 2*v+2, nil)
			w.buildIs(t, tab.Not(tab.Var(v)), 2*v+3, nil)
			is, _ := w.s.Node(2*v + 2)
			not, _ := w.s.Node(2*v + 3)
			if is != (api.Node{Var: v, Lo: 0, Hi: 1}) || not != (api.Node{Var: v, Lo: 1, Hi: 0}) {
				t.Fatalf("variable %d is %v, its opposite %v", v, is, not)
			}
		}
	}
}

// byHand has Cof by 0 and by 1, each by the first level, of more nodes than one: x1 x3 where x0 is 0, x2 or x3 where it is 1.
func byHand() api.Func {
	return table(func(x int) bool {
		if x&1 == 0 {
			return x&10 == 10
		}
		return x&12 != 0
	})
}

// made are byHand's nodes in the order of their making, numbers as those of a new store: x3, x1 x3; x2 or x3 (x3 is there); all.
var made = []api.Node{{Var: 3, Lo: 0, Hi: 1}, {Var: 1, Lo: 0, Hi: 2}, {Var: 2, Lo: 2, Hi: 1}, {Var: 0, Lo: 3, Hi: 4}}

// P8.2, R3: the nodes are made from below, that of Cof by 0 first; where there is no room, what was made by then stays, and nothing else is made.
func TestBuildMakesFromBelow(t *testing.T) {
	for room := range 6 {
		w := newTwins(t, room, plain)
		for range 3 {
			if room < 4 {
				w.buildIs(t, byHand(), 0, api.ErrFull)
			} else {
				w.buildIs(t, byHand(), 5, nil)
			}
			if is := look(w.s); !slices.Equal(is.nodes, made[:min(room, 4)]) || is.live != min(room, 4) || is.room != room-is.live {
				t.Fatalf("with room for %d: %v", room, is)
			}
		}
	}
}

// P8.2: in another order another variable is the top, of all and of each part.
func TestBuildByTheStoresOrder(t *testing.T) {
	w := newTwins(t, 9, [8]int{3, 7, 2, 6, 1, 0, 4, 5})
	w.buildIs(t, byHand(), 5, nil)
	want := []api.Node{{Var: 0, Lo: 0, Hi: 1}, {Var: 2, Lo: 0, Hi: 2}, {Var: 1, Lo: 2, Hi: 1}, {Var: 3, Lo: 3, Hi: 4}}
	if is := look(w.s); !slices.Equal(is.nodes, want) {
		t.Fatalf("%v, not %v", is.nodes, want)
	}
}

// P8.2: the numbers are those that the arena gives: those given back ahead of new ones, the last first.
func TestBuildAtNumbersGivenBack(t *testing.T) {
	w := newTwins(t, 9, plain)
	for v := range 5 {
		w.mk(t, v, 1, 0)
	}
	for _, n := range []int{5, 2, 6} {
		w.free(t, n)
	}
	w.buildIs(t, byHand(), 7, nil)
	for n, want := range map[int]api.Node{6: {Var: 3, Lo: 0, Hi: 1}, 2: {Var: 1, Lo: 0, Hi: 6}, 5: {Var: 2, Lo: 6, Hi: 1}, 7: {Var: 0, Lo: 2, Hi: 5}} {
		if is, _ := w.s.Node(n); is != want {
			t.Errorf("%d is %v, not %v", n, is, want)
		}
	}
}

// P8.2: with room for just as many nodes as it needs a function is built, and with room for one less, or for fewer, it is not; then what was made stays, and nothing else.
func TestBuildWithLittleRoom(t *testing.T) {
	for i, order := range orders() {
		for _, f := range samples() {
			many := needed(t, f, order)
			for room := many - 1; room >= max(0, many-3-i); room-- {
				w := newTwins(t, room, order)
				w.buildIs(t, f, 0, api.ErrFull)
				was := look(w.s)
				w.buildIs(t, f, 0, api.ErrFull)
				if w.s.Live() != room || !look(w.s).is(was) {
					t.Fatalf("with room for %d there are %d nodes, or built again something changes", room, w.s.Live())
				}
			}
			w := newTwins(t, many, order)
			n := w.buildMakes(t, f, many)
			w.buildIs(t, f, n, nil)
		}
	}
}

// P8.2, P8.3: every function of three variables, in a store of each room that it may want, in many orders.
func TestBuildOfAllOfThree(t *testing.T) {
	r := rand.New(rand.NewSource(17))
	for _, order := range orders() {
		for values := range 256 {
			l := r.Perm(api.Vars)[:3]
			f := table(func(x int) bool { return values>>(x>>l[0]&1|x>>l[1]&1<<1|x>>l[2]&1<<2)&1 == 1 })
			for room := range 9 {
				w := newTwins(t, room, order)
				if _, err := w.build(t, f); err == nil {
					break
				}
			}
		}
	}
}

// P8.3: a function that is there already is told, be there room or none, and nothing is made: all that is there, in stores of all kinds.
func TestBuildOfWhatIsThere(t *testing.T) {
	for _, w := range stores(t) {
		for _, n := range w.s.All() {
			was := look(w.s)
			w.buildIs(t, Table(w.s, n), n, nil)
			if !look(w.s).is(was) {
				t.Fatalf("by Build of %d, which is there, the store changes", n)
			}
		}
	}
}

// P8.2: of a function parts of which are there just the others are made, and there must be room for just these.
func TestBuildOfWhatIsThereInPart(t *testing.T) {
	for _, order := range orders() {
		for _, f := range samples() {
			many := needed(t, f, order)
			for v := range api.Vars {
				part := cof.Cof(f, v, v%2 == 0)
				there := needed(t, part, order)
				w := newTwins(t, 400, order)
				w.buildMakes(t, part, there)
				if _, err := w.build(t, f); err != nil {
					t.Fatal(err)
				}
				all := w.s.Live()
				if all > many+there || all < many {
					t.Fatalf("there are %d nodes, of %d and %d", all, many, there)
				}
				w = newTwins(t, all, order)
				w.buildMakes(t, part, there)
				w.buildMakes(t, f, all-there)
				if all > there {
					w = newTwins(t, all-1, order)
					w.buildMakes(t, part, there)
					w.buildIs(t, f, 0, api.ErrFull)
				}
			}
		}
	}
}

// P8.2: parts of byHand are there, by hand: x3, and what is made of x2 and x3; so the rest is made, in its turn.
func TestBuildOfWhatIsThereInPartByHand(t *testing.T) {
	for room, want := range []error{api.ErrFull, api.ErrFull, nil} {
		w := newTwins(t, 3+room, plain)
		apart := w.mk(t, 5, 1, 0)
		three := w.mk(t, 3, 0, 1)
		two := w.mk(t, 2, three, 1)
		n, err := w.build(t, byHand())
		if err != want {
			t.Fatalf("with room for %d: %v", room, err)
		}
		nodes := []api.Node{{Var: 5, Lo: 1, Hi: 0}, made[0], {Var: 2, Lo: three, Hi: 1}, {Var: 1, Lo: 0, Hi: three}, {Var: 0, Lo: 5, Hi: two}}
		if is := look(w.s); !slices.Equal(is.nodes, nodes[:3+room]) || apart != 2 || want == nil && n != 6 {
			t.Fatalf("with room for %d: %d, %v", room, n, is)
		}
	}
}

// P8.3: what was built reads as it was told, built again nothing is made, and two that read alike are one, also behind exchanges of levels.
func TestBuildBehindExchanges(t *testing.T) {
	r := rand.New(rand.NewSource(18))
	w := newTwins(t, 20000, plain)
	built := map[api.Func]int{}
	for range 15 {
		for _, f := range []api.Func{simple(r), simple(r), shapeless(r), samples()[r.Intn(30)]} {
			n, err := w.build(t, f)
			if other, ok := built[f]; err != nil || ok && other != n {
				t.Fatalf("%x is %d, then %d, %v", f, other, n, err)
			}
			built[f] = n
		}
		for range r.Intn(12) {
			w.swap(t, r.Intn(7))
		}
		live := w.s.Live()
		for f, n := range built {
			if m, err := Build(w.s, f); m != n || err != nil || Table(w.s, n) != f {
				t.Fatalf("%d, built as %x, reads as %x, and built again it is %d, %v", n, f, Table(w.s, n), m, err)
			}
		}
		if w.s.Live() != live {
			t.Fatal("built again something is made")
		}
		allUnlike(t, w.s)
	}
}

// allUnlike holds that no two numbers, nor one and a constant, read alike, and that Build of what one reads as tells it.
func allUnlike(t *testing.T, s *store.Store) {
	t.Helper()
	alike := map[api.Func]int{no: 0, yes: 1}
	for _, n := range s.All() {
		f := Table(s, n)
		if other, ok := alike[f]; ok {
			t.Fatalf("%d and %d read alike", other, n)
		}
		alike[f] = n
	}
	live := s.Live()
	for f, n := range alike {
		if m, err := Build(s, f); m != n || err != nil {
			t.Fatalf("Build of what %d reads as tells %d, %v", n, m, err)
		}
	}
	if s.Live() != live {
		t.Fatal("built again something is made")
	}
}

// P8.3: one function, put together in several ways, is one node.
func TestBuildOfOneToldInManyWays(t *testing.T) {
	for _, order := range orders() {
		w := newTwins(t, 4000, order)
		for _, f := range samples() {
			n, err := w.build(t, f)
			if err != nil {
				t.Fatal(err)
			}
			for v := range api.Vars {
				w.buildIs(t, tab.Ite(tab.Var(v), cof.Cof(f, v, true), cof.Cof(f, v, false)), n, nil)
			}
			w.buildIs(t, tab.Not(tab.Not(f)), n, nil)
		}
	}
}

// P8.2: where there was no room it goes on as soon as there is some, from what was made.
func TestBuildGoesOn(t *testing.T) {
	w := newTwins(t, 5, plain)
	x, y := w.mk(t, 6, 0, 1), w.mk(t, 7, 0, 1)
	w.buildIs(t, byHand(), 0, api.ErrFull)
	w.buildIs(t, byHand(), 0, api.ErrFull)
	w.buildIs(t, tab.Var(3), 4, nil)
	w.buildIs(t, tab.Var(2), 0, api.ErrFull)
	if err := w.free(t, x); err != nil {
		t.Fatal(err)
	}
	w.buildIs(t, byHand(), x, nil)
	w.buildIs(t, tab.Var(5), 0, api.ErrFull)
	if err := w.free(t, y); err != nil {
		t.Fatal(err)
	}
	w.buildIs(t, tab.Var(5), y, nil)
}

// P8.1 to P8.3: stores are filled up by functions with no shape; what there is no room for is told so; then all may be read and reached.
func TestUntilThereIsNoRoom(t *testing.T) {
	r := rand.New(rand.NewSource(19))
	for i, most := range []int{100, 800, 5000, 20000} {
		w := newTwins(t, most, orders()[i+3])
		var roots []int
		for w.s.Room() > 0 {
			if n, err := w.build(t, shapeless(r)); err == nil {
				roots = append(roots, n)
			}
		}
		w.buildIs(t, yes, 1, nil)
		if w.s.Live() != most || len(roots) < most/80 {
			t.Fatalf("of %d there are %d, of %d functions", most, w.s.Live(), len(roots))
		}
		reachIs(t, w.s, roots, reached(w.s, roots))
		allUnlike(t, w.s)
		many := slices.Repeat(append(w.s.All(), edges...), 10)
		reachIs(t, w.s, many, w.s.All())
	}
}

// P8.1 to P8.3, P1: long ways with no shape of builds, exchanges, frees and readings, in stores of little and of much room.
func TestLongWays(t *testing.T) {
	for seed := range int64(20) {
		r := rand.New(rand.NewSource(seed))
		w := newTwins(t, []int{3, 20, 90, 300, 1500}[seed%5], plain)
		for range 150 {
			step(t, r, w)
			w.same(t)
		}
	}
}

// step does anything to both stores.
func step(t *testing.T, r *rand.Rand, w twins) {
	t.Helper()
	some := func() int { return r.Intn(w.s.Live()+6) - 2 }
	switch r.Intn(9) {
	case 0, 1:
		w.build(t, simple(r))
	case 2:
		w.build(t, shapeless(r))
	case 3:
		w.build(t, Table(w.s, some()))
	case 4, 5:
		w.swap(t, r.Intn(7))
	case 6:
		for range 9 {
			w.free(t, some())
		}
	case 7:
		n := some()
		reads(t, w.s, n, walked(w.s, n))
	default:
		roots := []int{some(), some(), edges[r.Intn(len(edges))]}
		reachIs(t, w.s, roots, reached(w.s, roots))
	}
}

// Nothing is kept from call to call: of several stores each is read, reached and built in as if it were alone.
func TestStoresAreApart(t *testing.T) {
	l := []twins{newTwins(t, 30, plain), newTwins(t, 30, plain), newTwins(t, 400, orders()[1]), newTwins(t, 400, orders()[3])}
	r := rand.New(rand.NewSource(20))
	for range 300 {
		if r.Intn(3) == 0 {
			f := simple(r)
			for _, w := range l {
				w.build(t, f)
			}
		}
		step(t, r, l[r.Intn(len(l))])
		for _, w := range l {
			w.same(t)
		}
	}
	for n := range 60 {
		for _, w := range l {
			reads(t, w.s, n, walked(w.s, n))
			reachIs(t, w.s, []int{n}, reached(w.s, []int{n}))
		}
	}
}

// P1, P8.1 to P8.3: no argument makes a call panic, and all is as the chapter's words tell it.
func FuzzAllArguments(f *testing.F) {
	for i, n := range append([]int{0, 1, 2, 3, 7, 255}, edges...) {
		f.Add(i*7%130, n, edges[(i+5)%len(edges)], uint64(0x123456789abcdef0), ^uint64(0), uint64(1)<<63, []byte{1, 2, 90, 30, 60, 200, 150, 3, 4, 77, 6, 9})
	}
	f.Fuzz(func(t *testing.T, most, n, x int, a, b, c uint64, ways []byte) {
		w := newTwins(t, most&127, plain)
		g := api.Func{a, b, c, a ^ b}
		for _, way := range ways[:min(len(ways), 60)] {
			k := int(way >> 2)
			switch way & 3 {
			case 0:
				w.swap(t, k&7)
			case 1:
				w.free(t, k)
			default:
				w.build(t, cof.Cof(g, k&7, way&3 == 3))
				g = api.Func{g[3], g[0] ^ a, g[1] + b, g[2]}
			}
		}
		reads(t, w.s, n, walked(w.s, n))
		if row := x >= 0 && x < api.Rows; Value(w.s, n, x) != (row && walk(w.s, n, x)) {
			t.Errorf("Value(%d, %d)", n, x)
		}
		roots := []int{n, x, n, n + 1, x - 1, 5}
		reachIs(t, w.s, roots, reached(w.s, roots))
		allUnlike(t, w.s)
		w.same(t)
	})
}

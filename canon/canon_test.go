package canon_test

import (
	"bower/api"
	"bower/canon"
	"bower/cof"
	"bower/read"
	"bower/size"
	"bower/store"
	"bower/sweep"
	"bower/tab"
	"math"
	"math/rand"
	"slices"
	"testing"
)

// edges are numbers that are no node's and no constant's: the nearest, those that wrap onto right ones, the least and the greatest.
var edges = []int{-1, -2, -3, -8, -64, 20002, 20003, 65536, 65538, 1<<31 - 1, 1 << 31, -1 << 31, 1 << 32, 1<<32 + 1, 1<<32 + 2, 1<<32 + 3, -1 << 32, 2 - 1<<32, 1 << 62, -1 << 62, math.MaxInt - 1, math.MaxInt, math.MinInt, math.MinInt + 1, math.MinInt + 2, math.MinInt + 3, math.MinInt + 4}

// noMosts are numbers of which there may be no store: all edges, one more than may be, and some that wrap.
var noMosts = append([]int{20001, 40000, 65535, 1<<32 + 20000, 20000 - 1<<32, -20000, -20001, 1 << 23}, edges...)

// mosts are numbers of which there may be a store: the least, the greatest, and some between.
var mosts = []int{0, 1, 2, 3, 9, 60, 255, 256, 300, 10000, 19999, 20000}

var plain = [8]int{0, 1, 2, 3, 4, 5, 6, 7}

// inOrder is a store of so many, without nodes, whose levels were exchanged until the order is the one that is asked.
func inOrder(t *testing.T, most int, order [8]int) *store.Store {
	t.Helper()
	s := store.New(most)
	for l, v := range order {
		now := s.Order()
		for at := slices.Index(now[:], v); at > l; at-- {
			if err := s.Swap(at - 1); err != nil {
				t.Fatal(err)
			}
		}
	}
	if s.Order() != order {
		t.Fatalf("the order is %v, not %v", s.Order(), order)
	}
	return s
}

// orders are the plain one, it turned, two that part neighbours, and some with no shape.
func orders() [][8]int {
	l := [][8]int{plain, {7, 6, 5, 4, 3, 2, 1, 0}, {0, 2, 4, 6, 1, 3, 5, 7}, {6, 0, 7, 1, 5, 2, 4, 3}}
	r := rand.New(rand.NewSource(61))
	for range 4 {
		l = append(l, [8]int(r.Perm(api.Vars)))
	}
	return l
}

// table lays a function out row by row.
func table(value func(x int) bool) api.Func {
	var f api.Func
	for x := range api.Rows {
		if value(x) {
			f[x/64] |= 1 << (x % 64)
		}
	}
	return f
}

// shapeless is any function.
func shapeless(r *rand.Rand) api.Func {
	return api.Func{r.Uint64(), r.Uint64(), r.Uint64(), r.Uint64()}
}

// simple is a function of some variables alone.
func simple(r *rand.Rand) api.Func {
	f := shapeless(r)
	for range 3 + r.Intn(5) {
		f = cof.Cof(f, r.Intn(8), r.Intn(2) == 1)
	}
	return f
}

// paired is variables by twos: what hangs on the order most.
func paired(vars ...int) api.Func {
	f, half := tab.Const(false), len(vars)/2
	for i := range half {
		f = tab.Or(f, tab.And(tab.Var(vars[i]), tab.Var(vars[i+half])))
	}
	return f
}

// odd is the sum of all variables, that needs as many nodes in each order.
func odd() api.Func {
	f := tab.Const(false)
	for v := range api.Vars {
		f = tab.Xor(f, tab.Var(v))
	}
	return f
}

// sets are lists of functions: none, constants, of few variables and of all, that hang on the order much and not at all, one twice, with its opposite, with its parts.
func sets() [][]api.Func {
	r := rand.New(rand.NewSource(131))
	no, yes, any := tab.Const(false), tab.Const(true), shapeless(r)
	l := [][]api.Func{
		nil,
		{yes},
		{no, yes, yes, no},
		{tab.Var(3)},
		{tab.Var(7), tab.Var(0), tab.Not(tab.Var(0))},
		{paired(0, 1, 2, 3, 4, 5, 6, 7)},
		{paired(0, 2, 4, 6, 1, 3, 5, 7)},
		{paired(5, 0, 3, 6), yes},
		{odd(), tab.Not(odd())},
		{any, any},
		{any, tab.Not(any), odd()},
		{any, cof.Cof(any, 0, false), cof.Cof(any, 0, true)},
		{cof.Cof(any, 3, true), cof.Cof(any, 0, true), any},
		{paired(0, 1, 2, 3), paired(4, 5, 6, 7), paired(1, 7, 0, 4)},
		{tab.Ite(tab.Var(7), tab.And(tab.Var(0), tab.Var(3)), tab.Or(tab.Var(1), tab.Var(2)))},
	}
	for i := range 9 {
		var fs []api.Func
		for range 1 + i%4 {
			fs = append(fs, simple(r))
		}
		l = append(l, fs)
	}
	return l
}

// view is all that can be seen of a store.
type view struct {
	order      [8]int
	live, room int
	nums       []int
	nodes      []api.Node
}

func look(s *store.Store) view {
	w := view{order: s.Order(), live: s.Live(), room: s.Room(), nums: s.All()}
	for _, n := range w.nums {
		is, _ := s.Node(n)
		w.nodes = append(w.nodes, is)
	}
	return w
}

func (w view) is(v view) bool {
	return w.order == v.order && w.live == v.live && w.room == v.room && slices.Equal(w.nums, v.nums) && slices.Equal(w.nodes, v.nodes)
}

// functions are those of all nodes and of the constants, as chapter 7 tells them.
func functions(s *store.Store) map[int]api.Func {
	l := map[int]api.Func{0: tab.Const(false), 1: tab.Const(true)}
	var of func(n int) api.Func
	of = func(n int) api.Func {
		f, ok := l[n]
		if !ok {
			is, _ := s.Node(n)
			f = tab.Ite(tab.Var(is.Var), of(is.Hi), of(is.Lo))
			l[n] = f
		}
		return f
	}
	for _, n := range s.All() {
		of(n)
	}
	return l
}

// model is what a store without Free and Swap is by chapter 7's words: nodes whose numbers are 2 and up, in the order of their making.
type model struct {
	most  int
	nodes []api.Node
	nums  map[api.Node]int
}

func newModel(most int) *model { return &model{most: most, nums: map[api.Node]int{}} }

func (m *model) mk(v, lo, hi int) (int, bool) {
	is := api.Node{Var: v, Lo: lo, Hi: hi}
	n, ok := m.nums[is]
	switch {
	case lo == hi:
		return lo, true
	case ok:
		return n, true
	case len(m.nodes) == m.most:
		return 0, false
	}
	m.nodes = append(m.nodes, is)
	m.nums[is] = len(m.nodes) + 1
	return len(m.nodes) + 1, true
}

// lay builds f by its rows in turn, variable 7 changing fastest: behind two parts that are done comes the node of both.
// Of two that are one nothing is made, so that what is made, and in which order, is what chapter 8 says of Build in the plain order.
func (m *model) lay(f api.Func) (int, bool) {
	var done []int
	for i := range api.Rows {
		x, n := 0, 0
		for v := range api.Vars {
			x |= i >> (7 - v) & 1 << v
		}
		if f[x/64]>>(x%64)&1 == 1 {
			n = 1
		}
		done = append(done, n)
		for v := 7; v >= 0 && i>>(7-v)&1 == 1; v-- {
			k := len(done) - 2
			n, ok := m.mk(v, done[k], done[k+1])
			if !ok {
				return 0, false
			}
			done = append(done[:k], n)
		}
	}
	return done[0], true
}

// view is what can be seen of a store that is as the model.
func (m *model) view() view {
	w := view{order: plain, live: len(m.nodes), room: m.most - len(m.nodes), nodes: m.nodes}
	for i := range m.nodes {
		w.nums = append(w.nums, i+2)
	}
	return w
}

// words is the chapter's words, by what the roots' functions are and the model alone.
func words(of map[int]api.Func, most int, roots []int) (*model, []int, error) {
	if most < 0 || most > 20000 {
		return nil, nil, api.ErrArg
	}
	for _, n := range roots {
		if _, ok := of[n]; !ok {
			return nil, nil, api.ErrArg
		}
	}
	m := newModel(most)
	var nums []int
	for _, n := range roots {
		num, ok := m.lay(of[n])
		if !ok {
			return nil, nil, api.ErrFull
		}
		nums = append(nums, num)
	}
	return m, nums, nil
}

// built is what Build gives of functions, in order, in a store as New tells it: the store that Canon tells is to be like this one, to its last call.
func built(t *testing.T, most int, fs []api.Func) *store.Store {
	t.Helper()
	s := store.New(most)
	for _, f := range fs {
		if _, err := read.Build(s, f); err != nil {
			t.Fatal(err)
		}
	}
	return s
}

// twins are two stores to which the same is done, but that Canon is asked of the first alone: so what can't be seen of a store, the turn of the numbers that were given back, is held too, by what is made later.
type twins struct{ s, other *store.Store }

func newTwins(t *testing.T, most int, order [8]int) twins {
	t.Helper()
	return twins{inOrder(t, most, order), inOrder(t, most, order)}
}

// same holds all that can be seen of one against the other.
func (w twins) same(t *testing.T) {
	t.Helper()
	if is, want := look(w.s), look(w.other); !is.is(want) {
		t.Fatalf("the store is %v, not %v", is, want)
	}
}

// both asks both stores the same, and tells what the first tells.
func (w twins) both(t *testing.T, ask func(s *store.Store) (int, error)) (int, error) {
	t.Helper()
	n, err := ask(w.s)
	want, wantErr := ask(w.other)
	if n != want || err != wantErr {
		t.Fatalf("one store tells %d, %v, the other %d, %v", n, err, want, wantErr)
	}
	return n, err
}

func (w twins) mk(t *testing.T, v, lo, hi int) int {
	t.Helper()
	n, err := w.both(t, func(s *store.Store) (int, error) { return s.Mk(v, lo, hi) })
	if err != nil {
		t.Fatalf("Mk(%d, %d, %d) tells %v", v, lo, hi, err)
	}
	return n
}

func (w twins) build(t *testing.T, f api.Func) (int, error) {
	t.Helper()
	return w.both(t, func(s *store.Store) (int, error) { return read.Build(s, f) })
}

func (w twins) free(t *testing.T, n int) error {
	t.Helper()
	_, err := w.both(t, func(s *store.Store) (int, error) { return 0, s.Free(n) })
	return err
}

func (w twins) swap(t *testing.T, l int) error {
	t.Helper()
	_, err := w.both(t, func(s *store.Store) (int, error) { return 0, s.Swap(l) })
	return err
}

func (w twins) sweep(t *testing.T, roots []int) int {
	t.Helper()
	many, _ := w.both(t, func(s *store.Store) (int, error) { return sweep.Sweep(s, roots), nil })
	return many
}

// fill makes nodes with no shape until there is room for so many.
func (w twins) fill(t *testing.T, r *rand.Rand, room int) {
	t.Helper()
	for k := w.known(); w.s.Room() > room; {
		v, lo, hi := r.Intn(8), k[r.Intn(len(k))], k[r.Intn(len(k))]
		was := w.s.Live()
		if n, _ := w.both(t, func(s *store.Store) (int, error) { return s.Mk(v, lo, hi) }); w.s.Live() > was {
			k = append(k, n)
		}
	}
	w.same(t)
}

// goesOn does all kinds of things to both stores, until there is no room or many were made: so no number may come to one of them that doesn't come to the other.
func (w twins) goesOn(t *testing.T, r *rand.Rand) {
	t.Helper()
	w.fill(t, r, max(0, w.s.Room()-20))
	for range 9 {
		w.free(t, r.Intn(w.s.Live()+4))
		w.swap(t, r.Intn(7))
	}
	w.build(t, simple(r))
	w.sweep(t, w.some(r, 3))
	w.swap(t, r.Intn(7))
	w.fill(t, r, max(0, w.s.Room()-60))
	w.same(t)
}

// known are the constants and the numbers of all nodes.
func (w twins) known() []int { return append([]int{0, 1}, w.s.All()...) }

// some are so many of the constants and the nodes, some twice.
func (w twins) some(r *rand.Rand, many int) []int {
	k, l := w.known(), []int{}
	for range many {
		l = append(l, k[r.Intn(len(k))])
	}
	return l
}

// none are numbers that are neither a constant nor there, those that were freed, and that come next, too.
func (w twins) none() []int {
	l := slices.Clone(edges)
	for n := 2; n < 410; n++ {
		if _, ok := w.s.Node(n); !ok {
			l = append(l, n)
		}
	}
	return append(l, 20000, 20001)
}

// tops are the nodes that no other has as Lo or Hi.
func (w twins) tops() []int {
	had := map[int]bool{}
	for _, is := range look(w.s).nodes {
		had[is.Lo], had[is.Hi] = true, true
	}
	return slices.DeleteFunc(w.s.All(), func(n int) bool { return had[n] })
}

// turned is a list from its end.
func turned(l []int) []int {
	l = slices.Clone(l)
	slices.Reverse(l)
	return l
}

// handed asks Canon, and holds that neither the roots nor what lies behind them in one array change, and that the list that is told is another.
func handed(t *testing.T, s *store.Store, most int, roots []int) (*store.Store, []int, error) {
	t.Helper()
	if roots == nil {
		return canon.Canon(s, most, nil)
	}
	whole := append(slices.Clone(roots), slices.Repeat([]int{-77}, 40)...)
	was := slices.Clone(whole)
	made, nums, err := canon.Canon(s, most, whole[:len(roots)])
	kept := slices.Clone(nums)
	for i := range nums {
		nums[i] = -9
	}
	_ = append(nums[:len(nums):cap(nums)], 5)
	if !slices.Equal(whole, was) {
		t.Fatalf("the roots %v, and what lies behind them, are %v", roots, whole)
	}
	return made, kept, err
}

// told is what Canon told, and what is known of it by the chapter's words.
type told struct {
	w    twins
	fs   []api.Func
	nums []int
	err  error
}

// canon holds what Canon tells, and leaves, against the chapter's words.
func (w twins) canon(t *testing.T, most int, roots []int) told {
	t.Helper()
	of := functions(w.s)
	m, want, wantErr := words(of, most, roots)
	made, nums, err := handed(t, w.s, most, roots)
	if err != wantErr || !slices.Equal(nums, want) {
		t.Fatalf("Canon of %d, %v tells %v, %v, not %v, %v", most, roots, nums, err, want, wantErr)
	}
	w.same(t)
	if err != nil {
		if made != nil || len(nums) != 0 {
			t.Fatalf("with %v come a store, %v, and %v", err, made, nums)
		}
		return told{err: err}
	}
	if made == w.s || made == nil {
		t.Fatalf("Canon of %d, %v tells no new store", most, roots)
	}
	if is := look(made); !is.is(m.view()) {
		t.Fatalf("by Canon of %d, %v the store is %v, not %v", most, roots, is, m.view())
	}
	var fs []api.Func
	for _, n := range roots {
		fs = append(fs, of[n])
	}
	reads(t, made, nums, fs)
	l := told{twins{made, built(t, most, fs)}, fs, nums, nil}
	l.w.same(t)
	return l
}

// reads holds that numbers read as functions, that as many nodes are there as layer 3 tells of these, and that all is of use.
func reads(t *testing.T, s *store.Store, nums []int, fs []api.Func) {
	t.Helper()
	of := functions(s)
	for i, n := range nums {
		if f, ok := of[n]; !ok || f != fs[i] || read.Table(s, n) != f {
			t.Fatalf("%d, the root at %d, is %x, not %x", n, i, f, fs[i])
		}
	}
	if want := size.Size(fs, size.Plain()); s.Live() != want {
		t.Fatalf("there are %d nodes, not %d", s.Live(), want)
	}
	if l := read.Reach(s, nums); !slices.Equal(l, s.All()) {
		t.Fatalf("%v are there, the roots reach %v", s.All(), l)
	}
}

// canonIs holds canon against what is known of it.
func (w twins) canonIs(t *testing.T, most int, roots, nums []int, nodes []api.Node) told {
	t.Helper()
	l := w.canon(t, most, roots)
	if l.err != nil || !slices.Equal(l.nums, nums) || !slices.Equal(look(l.w.s).nodes, nodes) {
		t.Fatalf("Canon of %d, %v tells %v, %v, and the nodes are %v", most, roots, l.nums, l.err, look(l.w.s).nodes)
	}
	return l
}

// canonTells holds canon against the error that is known of it.
func (w twins) canonTells(t *testing.T, most int, roots []int, want error) {
	t.Helper()
	if l := w.canon(t, most, roots); l.err != want {
		t.Fatalf("Canon of %d, %v tells %v, not %v", most, roots, l.err, want)
	}
}

// filled are stores of so many, with room for so many more, of nodes with no shape.
func filled(t *testing.T, seed int64, most, room int) twins {
	t.Helper()
	r := rand.New(rand.NewSource(seed))
	w := newTwins(t, most, [8]int(r.Perm(api.Vars)))
	w.fill(t, r, room)
	return w
}

// holding are stores of just as many nodes as functions need, and of so many more; with it come the functions' nodes.
func holding(t *testing.T, order [8]int, room int, fs ...api.Func) (twins, []int) {
	t.Helper()
	w := newTwins(t, size.Size(fs, order)+room, order)
	var roots []int
	for _, f := range fs {
		n, err := w.build(t, f)
		if err != nil {
			t.Fatal(err)
		}
		roots = append(roots, n)
	}
	if w.s.Room() != room {
		t.Fatalf("there is room for %d, not %d", w.s.Room(), room)
	}
	return w, roots
}

// kinds make stores of many kinds: that may have none, or one; without nodes, with one, with some; without room, with room for one; with numbers that were given back.
func kinds() []func(t *testing.T) twins {
	return []func(t *testing.T) twins{
		func(t *testing.T) twins { return newTwins(t, 0, orders()[4]) },
		func(t *testing.T) twins { return newTwins(t, 60, orders()[3]) },
		func(t *testing.T) twins { return filled(t, 71, 1, 0) },
		func(t *testing.T) twins { return filled(t, 72, 9, 8) },
		func(t *testing.T) twins { return filled(t, 73, 90, 40) },
		func(t *testing.T) twins { return filled(t, 74, 40, 0) },
		func(t *testing.T) twins { return filled(t, 75, 41, 1) },
		func(t *testing.T) twins {
			w, _ := holding(t, orders()[5], 60, paired(0, 1, 2, 3), paired(4, 5, 6, 7, 1, 0), odd())
			return w
		},
		func(t *testing.T) twins {
			w := filled(t, 77, 100, 50)
			for _, n := range turned(w.s.All()) {
				if n%3 != 0 {
					w.free(t, n)
				}
			}
			return w
		},
	}
}

// lists are roots of all kinds that may be: none, constants; one, the same twice, one and what it has, all, some of all.
func (w twins) lists(r *rand.Rand) [][]int {
	k := w.known()
	first, last := k[min(2, len(k)-1)], k[len(k)-1]
	l := [][]int{nil, {}, {0}, {1}, {0, 1}, {1, 0, 0, 1}}
	l = append(l, w.s.All(), turned(w.s.All()), append(turned(w.s.All()), w.s.All()...), w.tops())
	l = append(l, []int{first}, []int{last}, []int{last, last, first, last}, []int{0, first, 1})
	for range 3 {
		n := k[r.Intn(len(k))]
		is, _ := w.s.Node(n)
		l = append(l, []int{n}, []int{is.Lo, n}, []int{n, is.Hi, is.Lo, n}, []int{n, last, n})
	}
	return append(l, w.some(r, 2), w.some(r, 4), w.some(r, 20))
}

// inAll does something with each list of roots that may be, in stores of all kinds, in the order in which they were made, and behind exchanges.
func inAll(t *testing.T, do func(t *testing.T, r *rand.Rand, w twins, roots []int)) {
	t.Helper()
	for i, kind := range kinds() {
		for ways := range 2 {
			ahead := func() (*rand.Rand, twins) {
				r, w := rand.New(rand.NewSource(int64(80+9*i+ways))), kind(t)
				for range 30 * ways {
					w.swap(t, r.Intn(7))
				}
				return r, w
			}
			r, w := ahead()
			for _, roots := range w.lists(r) {
				r, w := ahead()
				do(t, r, w, roots)
			}
		}
	}
}

// needs is how many nodes the roots' functions need in the plain order.
func (w twins) needs(roots []int) int {
	var fs []api.Func
	of := functions(w.s)
	for _, n := range roots {
		fs = append(fs, of[n])
	}
	return size.Size(fs, size.Plain())
}

// P14.1, R1, R3: ErrArg of a number of which there may be no store, whatever the store and the roots: nothing is told beside it, and nothing changes.
func TestErrArgOfMost(t *testing.T) {
	inAll(t, func(t *testing.T, r *rand.Rand, w twins, roots []int) {
		for i, most := range noMosts {
			w.canonTells(t, most, roots, api.ErrArg)
			if i%5 == 0 {
				w.canonTells(t, most, append([]int{edges[i%len(edges)]}, roots...), api.ErrArg)
			}
		}
		w.goesOn(t, r)
	})
}

// P14.1, R1, R3: ErrArg of a root that is neither a constant nor there, be there much room or none: each that there may be, alone.
func TestErrArgOfRoot(t *testing.T) {
	for i, kind := range kinds() {
		w := kind(t)
		for j, n := range w.none() {
			for _, most := range []int{0, mosts[j%len(mosts)], api.MaxNodes} {
				w.canonTells(t, most, []int{n}, api.ErrArg)
				w.canonTells(t, most, []int{n, n}, api.ErrArg)
				w.canonTells(t, most, []int{0, n, 1, n, 0}, api.ErrArg)
			}
		}
		w.goesOn(t, rand.New(rand.NewSource(int64(i))))
	}
}

// P14.1, R1, R3: the same ahead of others, behind others and between, of roots of all kinds.
func TestErrArgOfRoots(t *testing.T) {
	at := 0
	inAll(t, func(t *testing.T, r *rand.Rand, w twins, roots []int) {
		none := w.none()
		for range 7 {
			at++
			n := none[at*5%len(none)]
			for _, most := range []int{0, mosts[at%len(mosts)], api.MaxNodes} {
				w.canonTells(t, most, append([]int{n}, roots...), api.ErrArg)
				w.canonTells(t, most, append(slices.Clone(roots), n), api.ErrArg)
				w.canonTells(t, most, slices.Insert(slices.Clone(roots), len(roots)/2, n), api.ErrArg)
			}
		}
		w.goesOn(t, r)
	})
}

// P14.1, R1: ErrArg ahead of ErrFull: there is no room for the roots ahead of the one that is amiss, be that the next, or far behind; without it ErrFull is told.
func TestErrArgAheadOfErrFull(t *testing.T) {
	for _, order := range orders() {
		for _, fs := range sets() {
			w, roots := holding(t, order, 9, fs...)
			many := size.Size(fs, size.Plain())
			for most := max(0, many-3); most < many; most++ {
				w.canonTells(t, most, roots, api.ErrFull)
				for _, n := range []int{-1, w.s.Live() + 2, w.s.Live() + 9, 20001, 1 << 32, math.MinInt + 2} {
					w.canonTells(t, most, append(slices.Clone(roots), n), api.ErrArg)
					w.canonTells(t, most, append(slices.Concat(roots, []int{n}), roots...), api.ErrArg)
					w.canonTells(t, most, append(slices.Repeat(roots, 20), 0, 1, n), api.ErrArg)
				}
			}
		}
	}
}

// P14.1, R1: by hand: of three nodes the last one was freed: it is told ahead of the room that there isn't.
func TestErrArgAheadOfErrFullByHand(t *testing.T) {
	w := newTwins(t, 9, plain)
	for v := range 3 {
		w.mk(t, v, 0, 1)
	}
	for most := range 3 {
		w.canonTells(t, most, []int{2, 3, 4}, api.ErrFull)
	}
	w.canonTells(t, 3, []int{2, 3, 4}, nil)
	if err := w.free(t, 4); err != nil {
		t.Fatal(err)
	}
	for most := range 4 {
		for _, roots := range [][]int{{2, 3, 4}, {4, 2, 3}, {2, 4, 3}, {4}, {2, 3, 1, 4, 4}} {
			w.canonTells(t, most, roots, api.ErrArg)
		}
	}
	w.canonTells(t, 1, []int{2, 3}, api.ErrFull)
	w.mk(t, 5, 0, 1)
	w.canonTells(t, 3, []int{2, 3, 4}, nil)
}

// P14.1: the chapter's example: of constants these are told, and there are no nodes, be there room or none, in stores of all kinds; so without roots.
func TestExample(t *testing.T) {
	for _, kind := range kinds() {
		for _, most := range mosts {
			w := kind(t)
			for _, roots := range [][]int{{0, 1}, {1, 0}, {0}, {1}, {1, 1, 0, 1}, {}, nil} {
				l := w.canonIs(t, most, roots, roots, nil)
				if l.w.s.Order() != plain || l.w.s.Live() != 0 || l.w.s.Room() != most || len(l.w.s.All()) != 0 {
					t.Fatalf("by %d, %v the store is %v", most, roots, look(l.w.s))
				}
				l.w.goesOn(t, rand.New(rand.NewSource(4)))
				w.same(t)
			}
			w.goesOn(t, rand.New(rand.NewSource(5)))
		}
	}
}

// hands are nodes in handOrder, numbers as those of a new store: 7 is variable 2 where 0 is 1, else 1; it has 3 and 6, and these have 2. 4 is variables 1 and 2; 5 is not variable 3.
var hands = []api.Node{{Var: 1, Lo: 0, Hi: 1}, {Var: 0, Lo: 2, Hi: 0}, {Var: 2, Lo: 0, Hi: 2}, {Var: 3, Lo: 1, Hi: 0}, {Var: 0, Lo: 2, Hi: 1}, {Var: 2, Lo: 3, Hi: 6}}

// handOrder is the order of hands.
var handOrder = [8]int{2, 0, 1, 3, 4, 5, 6, 7}

func byHand(t *testing.T, room int) twins {
	t.Helper()
	w := newTwins(t, len(hands)+room, handOrder)
	for i, is := range hands {
		if n := w.mk(t, is.Var, is.Lo, is.Hi); n != i+2 {
			t.Fatalf("%v is %d", is, n)
		}
	}
	return w
}

// P14.1: by hand: which nodes there are, their numbers, the roots' numbers in the roots' order, and the numbers that come next; the order is another than that of s.
func TestByHand(t *testing.T) {
	v1, v2, nv3 := api.Node{Var: 1, Lo: 0, Hi: 1}, api.Node{Var: 2, Lo: 0, Hi: 1}, api.Node{Var: 3, Lo: 1, Hi: 0}
	for _, c := range []struct {
		roots, nums []int
		nodes       []api.Node
	}{
		{[]int{7}, []int{4}, []api.Node{v1, v2, {Var: 0, Lo: 2, Hi: 3}}},
		{[]int{4}, []int{3}, []api.Node{v2, {Var: 1, Lo: 0, Hi: 2}}},
		{[]int{7, 4}, []int{4, 5}, []api.Node{v1, v2, {Var: 0, Lo: 2, Hi: 3}, {Var: 1, Lo: 0, Hi: 3}}},
		{[]int{4, 7}, []int{3, 5}, []api.Node{v2, {Var: 1, Lo: 0, Hi: 2}, v1, {Var: 0, Lo: 4, Hi: 2}}},
		{[]int{4, 1, 7, 4}, []int{3, 1, 5, 3}, []api.Node{v2, {Var: 1, Lo: 0, Hi: 2}, v1, {Var: 0, Lo: 4, Hi: 2}}},
		{[]int{5, 0, 2, 5}, []int{2, 0, 3, 2}, []api.Node{nv3, v1}},
		{[]int{2, 5}, []int{2, 3}, []api.Node{v1, nv3}},
		{[]int{3, 6}, []int{3, 4}, []api.Node{v1, {Var: 0, Lo: 2, Hi: 0}, {Var: 0, Lo: 2, Hi: 1}}},
		{[]int{6, 3}, []int{3, 4}, []api.Node{v1, {Var: 0, Lo: 2, Hi: 1}, {Var: 0, Lo: 2, Hi: 0}}},
		{[]int{7, 7, 7}, []int{4, 4, 4}, []api.Node{v1, v2, {Var: 0, Lo: 2, Hi: 3}}},
	} {
		for _, room := range []int{0, 1, 5} {
			for more := range 5 {
				w, most := byHand(t, room), len(c.nodes)+more
				l := w.canonIs(t, most, c.roots, c.nums, c.nodes)
				for i := range more {
					if n := l.w.mk(t, 7-i/2, i&1, 1-i&1); n != most-more+2+i {
						t.Fatalf("by %v then %d comes", c.roots, n)
					}
				}
				if n, err := l.w.build(t, tab.Var(4)); err != api.ErrFull {
					t.Fatalf("without room %d comes, %v", n, err)
				}
				w.goesOn(t, rand.New(rand.NewSource(6)))
			}
			w := byHand(t, room)
			w.canonTells(t, len(c.nodes)-1, c.roots, api.ErrFull)
			w.canonTells(t, 0, c.roots, api.ErrFull)
		}
	}
}

// P14.1, P14.2: with room for just as many nodes as are needed all are built, with one less, or fewer, ErrFull is told, and no store; be it more or less than s has.
func TestJustAsMany(t *testing.T) {
	more, fewer := 0, 0
	for _, order := range orders() {
		for _, fs := range sets() {
			w, roots := holding(t, order, 3, fs...)
			many := size.Size(fs, size.Plain())
			for most := range many {
				if many-most < 5 || most < 3 {
					w.canonTells(t, most, roots, api.ErrFull)
				}
			}
			for room := range 3 {
				l := w.canon(t, many+room, roots)
				if l.err != nil || l.w.s.Live() != many || l.w.s.Room() != room {
					t.Fatalf("with room for %d, and %d, %v is told", many, room, l.err)
				}
			}
			if many > w.s.Live() {
				more++
				w.canonTells(t, w.s.Live(), roots, api.ErrFull)
			}
			if many < w.s.Live() {
				fewer++
			}
		}
	}
	if more < 20 || fewer < 20 {
		t.Fatalf("more are needed %d times, fewer %d times", more, fewer)
	}
}

// P14.1: in each room that there may be, of a store that is full and of one that isn't: ErrFull up to where there is enough, from there on all the same.
func TestEachMost(t *testing.T) {
	for _, room := range []int{0, 7} {
		w := byHand(t, room)
		for _, roots := range [][]int{{7, 4}, {4, 7}, {2, 3, 4, 5, 6, 7}, {7, 6, 5, 4, 3, 2}, {1}, nil} {
			many := w.needs(roots)
			for most := range 40 {
				want := error(nil)
				if most < many {
					want = api.ErrFull
				}
				w.canonTells(t, most, roots, want)
			}
			for _, most := range mosts[5:] {
				if l := w.canon(t, most, roots); l.err != nil || l.w.s.Live()+l.w.s.Room() != most {
					t.Fatalf("with room for %d %v is told", most, l.err)
				}
			}
		}
	}
}

// P14.1: where there was no room a later call tells a new store nevertheless: nothing is left of the one that was given up.
func TestBehindErrFull(t *testing.T) {
	w := byHand(t, 2)
	for range 3 {
		w.canonTells(t, 3, []int{7, 4}, api.ErrFull)
		w.canonTells(t, 3, []int{7}, nil)
		w.canonTells(t, 2, []int{4, 7}, api.ErrFull)
		w.canonTells(t, 2, []int{4, 0}, nil)
		w.canonTells(t, 2, []int{-4, 0}, api.ErrArg)
		w.canonTells(t, 2, []int{4, 4}, nil)
	}
	w.goesOn(t, rand.New(rand.NewSource(7)))
}

// P14.1: each turn of the roots: each has the number that Build gives it there, and one that comes twice, or is a part of one ahead of it, the number that it has already.
func TestEachTurn(t *testing.T) {
	unlike := map[[4]int]bool{}
	for _, order := range orders() {
		r := rand.New(rand.NewSource(8))
		w, roots := holding(t, order, 0, paired(0, 1, 2, 3), simple(r), tab.And(tab.Var(0), tab.Var(2)), simple(r))
		for i := range 256 {
			turn := []int{roots[i&3], roots[i>>2&3], roots[i>>4&3], roots[i>>6&3]}
			l := w.canon(t, 300, turn)
			if l.err != nil {
				t.Fatal(l.err)
			}
			unlike[[4]int(l.nums)] = true
			for j := range turn {
				if first := slices.Index(turn, turn[j]); l.nums[j] != l.nums[first] {
					t.Fatalf("of %v %v are told", turn, l.nums)
				}
			}
		}
	}
	if len(unlike) < 30 {
		t.Fatalf("just %d unlike lists are told", len(unlike))
	}
}

// P14.1, P14.2, R2: in stores of all kinds, by roots of all kinds: all is as the chapter's words have it, with room for just as many, for one less, for more, for as many as s has; and each of the stores goes on by itself.
func TestAsTheWords(t *testing.T) {
	was := map[error]int{}
	inAll(t, func(t *testing.T, r *rand.Rand, w twins, roots []int) {
		many := w.needs(roots)
		for i, most := range []int{many, many - 1, many + 1, w.s.Live(), w.s.Live() + w.s.Room(), many / 2, 2 * many, 300, api.MaxNodes} {
			l := w.canon(t, most, roots)
			was[l.err]++
			if l.err != nil {
				continue
			}
			if i%2 == 0 {
				w.goesOn(t, r)
				roots = there(w, roots)
				many = w.needs(roots)
				l.w.same(t)
				l.w.goesOn(t, r)
			} else {
				l.w.goesOn(t, r)
				w.same(t)
			}
		}
		w.goesOn(t, r)
	})
	if was[nil] < 300 || was[api.ErrFull] < 150 || was[api.ErrArg] < 20 {
		t.Fatalf("these are told: %v", was)
	}
}

// there are those of roots that are constants or there.
func there(w twins, roots []int) []int {
	k := w.known()
	return slices.DeleteFunc(slices.Clone(roots), func(n int) bool { return !slices.Contains(k, n) })
}

// P14.2: there are as many nodes as layer 3 tells of the roots' functions in the plain order, whatever the order of s: the same store, to its last number, comes of each.
func TestBySizes(t *testing.T) {
	unlike := 0
	for _, fs := range sets() {
		var first view
		var nums []int
		for i, order := range orders() {
			w, roots := holding(t, order, 40, fs...)
			made, l, err := canon.Canon(w.s, 400, roots)
			if err != nil {
				t.Fatal(err)
			}
			now := look(made)
			if i == 0 {
				first, nums = now, l
			}
			if now.live != size.Size(fs, plain) || now.order != plain || !now.is(first) || !slices.Equal(l, nums) {
				t.Fatalf("of %x in %v comes %v, %v, not %v, %v", fs, order, now, l, first, nums)
			}
			if w.s.Live() != now.live {
				unlike++
			}
			reads(t, made, l, fs)
		}
	}
	if unlike < 40 {
		t.Fatalf("%d times s has as many nodes as are needed in the plain order", unlike)
	}
}

// P14.1, P14.2: in the plain order, of a store that was built with nothing else, comes one that is just the same; so of the new store by its roots, again and again.
func TestAgain(t *testing.T) {
	for _, fs := range sets() {
		w, roots := holding(t, plain, 5, fs...)
		for range 3 {
			l := w.canon(t, w.s.Live()+w.s.Room(), roots)
			if l.err != nil || !look(l.w.s).is(look(w.s)) || !slices.Equal(l.nums, roots) {
				t.Fatalf("of %v comes %v, %v", look(w.s), look(l.w.s), l.err)
			}
			w, roots = l.w, l.nums
		}
		w.goesOn(t, rand.New(rand.NewSource(9)))
	}
}

// P14.1: what is done to one of two stores behind it doesn't reach the other: exchanges, frees, and what is made, by hand.
func TestApart(t *testing.T) {
	w := byHand(t, 20)
	l := w.canon(t, 30, []int{7, 4, 2})
	was, now := look(w.s), look(l.w.s)
	for i := range 7 {
		l.w.swap(t, i)
		l.w.mk(t, 3, i&1, 1-i&1)
	}
	l.w.sweep(t, []int{l.nums[1]})
	if !look(w.s).is(was) {
		t.Fatalf("the store is %v, not %v", look(w.s), was)
	}
	l = w.canon(t, 30, []int{7, 4, 2})
	if !look(l.w.s).is(now) || !slices.Equal(l.nums, []int{4, 5, 2}) {
		t.Fatalf("then %v comes, not %v", look(l.w.s), now)
	}
	w.swap(t, 0)
	w.swap(t, 5)
	w.mk(t, 7, 1, 0)
	w.sweep(t, nil)
	if !look(l.w.s).is(now) {
		t.Fatalf("the new store is %v, not %v", look(l.w.s), now)
	}
	other := byHand(t, 20).canon(t, 30, []int{7, 4, 2})
	for i := range 7 {
		l.w.swap(t, i)
	}
	if !look(other.w.s).is(now) {
		t.Fatalf("another new store is %v, not %v", look(other.w.s), now)
	}
}

// P14.1: behind exchanges by which nodes change, and frees, the roots are what they are now, and the numbers that were given back to s are nothing to the new store.
func TestBehindChanges(t *testing.T) {
	for i, order := range orders() {
		r := rand.New(rand.NewSource(int64(100 + i)))
		w := newTwins(t, 2000, order)
		var roots []int
		for range 5 {
			n, err := w.build(t, simple(r))
			if err != nil {
				t.Fatal(err)
			}
			roots = append(roots, n)
		}
		first := w.canon(t, 500, roots)
		for range 30 {
			w.swap(t, r.Intn(7))
			if r.Intn(3) == 0 {
				w.sweep(t, roots)
			}
			l := w.canon(t, 500, roots)
			if !look(l.w.s).is(look(first.w.s)) || !slices.Equal(l.nums, first.nums) {
				t.Fatalf("behind exchanges %v comes, not %v", look(l.w.s), look(first.w.s))
			}
		}
		w.free(t, roots[0])
		w.mk(t, 0, 1, 0)
		w.goesOn(t, r)
		first.w.goesOn(t, r)
	}
}

// P14.1: a root that was freed, and came again as another node, is what it is now.
func TestWhatCameAgain(t *testing.T) {
	w := byHand(t, 0)
	for _, n := range []int{7, 6} {
		if err := w.free(t, n); err != nil {
			t.Fatal(err)
		}
		w.canonTells(t, 20, []int{n}, api.ErrArg)
	}
	if n := w.mk(t, 7, 1, 0); n != 6 {
		t.Fatalf("%d comes", n)
	}
	w.canonTells(t, 20, []int{6, 7}, api.ErrArg)
	w.canonIs(t, 20, []int{5, 6}, []int{2, 3}, []api.Node{{Var: 3, Lo: 1, Hi: 0}, {Var: 7, Lo: 1, Hi: 0}})
	if n := w.mk(t, 6, 0, 6); n != 7 {
		t.Fatalf("%d comes", n)
	}
	w.canonIs(t, 2, []int{7, 6}, []int{3, 2}, []api.Node{{Var: 7, Lo: 1, Hi: 0}, {Var: 6, Lo: 0, Hi: 2}})
}

// P14.1, P14.2: each set of nodes of hands as roots, in many orders, with room for just as many, and one less.
func TestAllSetsOfRoots(t *testing.T) {
	for set := range 1 << len(hands) {
		for way := range 4 {
			w := byHand(t, 9*way)
			for i := range way * 3 {
				w.swap(t, (i*4+set)%7)
			}
			var roots []int
			for n := range hands {
				if set>>n&1 == 1 {
					roots = append(roots, n+2)
				}
			}
			if way%2 == 1 {
				roots = append(turned(roots), way&1)
			}
			many := w.needs(roots)
			w.canonTells(t, many, roots, nil)
			if many > 0 {
				w.canonTells(t, many-1, roots, api.ErrFull)
			}
		}
	}
}

// P14.1: each function of three variables alone, in other orders than the plain one: its number, and the nodes.
func TestAllOfThree(t *testing.T) {
	r := rand.New(rand.NewSource(17))
	for values := range 256 {
		l := r.Perm(api.Vars)[:3]
		f := table(func(x int) bool { return values>>(x>>l[0]&1|x>>l[1]&1<<1|x>>l[2]&1<<2)&1 == 1 })
		for _, order := range orders()[1:4] {
			w, roots := holding(t, order, 0, f)
			many := size.Size([]api.Func{f}, plain)
			c := w.canon(t, many, roots)
			if c.err != nil || many > 0 && c.nums[0] != many+1 {
				t.Fatalf("%x is %v, %v", f, c.nums, c.err)
			}
			if many > 0 {
				w.canonTells(t, many-1, roots, api.ErrFull)
			}
		}
	}
}

// P14.1, P14.2, P1: stores that are as large as may be, and full: in the plain order all comes again with just as much room; in another one some does, and all but for room; a great many roots.
func TestLargest(t *testing.T) {
	r := rand.New(rand.NewSource(63))
	w := newTwins(t, api.MaxNodes, plain)
	roots := w.crowd(t, r)
	l := w.canon(t, api.MaxNodes, w.s.All())
	if l.err != nil || l.w.s.Room() != 0 || l.w.s.Live() != api.MaxNodes {
		t.Fatalf("%v, of %d there are %d", l.err, api.MaxNodes, l.w.s.Live())
	}
	w.canonTells(t, api.MaxNodes-1, w.s.All(), api.ErrFull)
	w.canonTells(t, api.MaxNodes, append(w.s.All(), 20002), api.ErrArg)
	w.canonTells(t, 0, append(w.s.All(), -1), api.ErrArg)
	w.canonTells(t, api.MaxNodes+1, w.s.All(), api.ErrArg)
	w.canonTells(t, 9000, slices.Repeat(roots[:20], 100), nil)
	w.sweep(t, roots[:20])
	w.crowd(t, r)

	w = newTwins(t, api.MaxNodes, orders()[3])
	roots = w.crowd(t, r)
	w.canonTells(t, 5000, roots, api.ErrFull)
	some := roots[len(roots)/2:]
	many := w.needs(some)
	w.canonTells(t, many, some, nil)
	w.canonTells(t, many-1, some, api.ErrFull)
	l = w.canon(t, api.MaxNodes, slices.Concat(some, some, roots[:3]))
	l.w.crowd(t, r)
}

// crowd builds functions with no shape until there is no room, and tells what they are.
func (w twins) crowd(t *testing.T, r *rand.Rand) []int {
	t.Helper()
	var roots []int
	for {
		n, err := w.build(t, shapeless(r))
		if err != nil {
			break
		}
		roots = append(roots, n)
	}
	if w.s.Room() != 0 {
		t.Fatalf("there is room for %d", w.s.Room())
	}
	w.same(t)
	return roots
}

// P14.1, R2: the list that is handed in may be one that the store or Canon told, and isn't changed; changed behind the call it changes nothing, and neither does the list that is told.
func TestRootsStay(t *testing.T) {
	w := filled(t, 64, 300, 200)
	all := w.s.All()
	was := slices.Clone(all)
	for _, l := range [][]int{all, all[: len(all)/2 : len(all)/2], all[3:9], all[5:6], all[:0], all} {
		for _, most := range []int{-1, 0, 5, 1000} {
			w.canon(t, most, l)
			canon.Canon(w.s, most, l)
			if !slices.Equal(all, was) {
				t.Fatalf("by %d, %v the list is %v, not %v", most, l, all, was)
			}
		}
	}
	roots := slices.Clone(all[10:20])
	made, first, err := canon.Canon(w.s, 1000, roots)
	if err != nil {
		t.Fatal(err)
	}
	now, kept := look(made), slices.Clone(first)
	for i := range roots {
		roots[i] = -5
	}
	if !look(made).is(now) || !slices.Equal(first, kept) {
		t.Fatal("the store, or the list that is told, changes with the roots")
	}
	_, second, err := canon.Canon(made, 1000, first)
	if err != nil || !slices.Equal(first, kept) {
		t.Fatalf("by Canon of what it told, %v, that is %v: %v", kept, first, err)
	}
	for i := range second {
		second[i] = 7
	}
	if !look(made).is(now) || !slices.Equal(first, kept) {
		t.Fatal("the store, or the list that was told, changes with what is told")
	}
	w.same(t)
	w.goesOn(t, rand.New(rand.NewSource(66)))
}

// P14.1, R2: nothing is kept from call to call: stores that are asked by turns, by the same numbers and by others, are as those that are asked alone.
func TestNothingIsKept(t *testing.T) {
	r := rand.New(rand.NewSource(67))
	l := []twins{filled(t, 68, 200, 120), filled(t, 69, 200, 80), byHand(t, 70), newTwins(t, 100, plain)}
	var made []told
	for range 25 {
		roots, most := []int{}, r.Intn(200)
		for range r.Intn(6) {
			roots = append(roots, r.Intn(40))
		}
		for _, w := range l {
			if c := w.canon(t, most, there(w, roots)); c.err == nil {
				made = append(made, c)
			}
			w.canon(t, most, roots)
			w.swap(t, r.Intn(7))
			w.fill(t, r, w.s.Room()/2)
		}
	}
	if len(made) < 50 {
		t.Fatalf("%d new stores", len(made))
	}
	for _, c := range made {
		c.w.same(t)
		reads(t, c.w.s, c.nums, c.fs)
		c.w.goesOn(t, r)
	}
}

// P14.1, P14.2, P1: long ways with no shape of what is made, exchanged, freed and asked, in stores of little and of much room, of which some are new ones.
func TestLongWays(t *testing.T) {
	for seed := range int64(25) {
		r := rand.New(rand.NewSource(seed + 300))
		w := newTwins(t, []int{2, 10, 40, 90, 300}[seed%5], plain)
		for range 90 {
			w = step(t, r, w)
		}
		w.same(t)
	}
}

// step does anything to both stores, and tells those that are to go on.
func step(t *testing.T, r *rand.Rand, w twins) twins {
	t.Helper()
	roots, most := w.some(r, r.Intn(9)), w.s.Live()+w.s.Room()
	switch r.Intn(8) {
	case 0:
		w.build(t, simple(r))
	case 1, 2:
		k, v := w.known(), r.Intn(8)
		for range 9 {
			lo, hi := k[r.Intn(len(k))], k[r.Intn(len(k))]
			w.both(t, func(s *store.Store) (int, error) { return s.Mk(v, lo, hi) })
		}
	case 3:
		w.swap(t, r.Intn(7))
	case 4:
		w.free(t, r.Intn(w.s.Live()+5)-1)
	case 5:
		w.canon(t, r.Intn(2*most+3)-1, append(roots, r.Intn(w.s.Live()+9)-3))
	case 6:
		w.sweep(t, roots)
	default:
		if l := w.canon(t, most, roots); l.err == nil {
			return l.w
		}
	}
	return w
}

// P1, P14.1, P14.2: no argument makes Canon panic, and all is as the chapter's words tell it.
func FuzzAllArguments(f *testing.F) {
	for i, n := range append([]int{0, 1, 2, 3, 7, 255}, edges...) {
		f.Add(i*7%130, n, edges[(i+5)%len(edges)], uint64(0x123456789abcdef0), ^uint64(0), uint64(1)<<63, []byte{1, 2, 90, 30, 60, 200, 150, 3, 4, 77, 6, 9, 0, 255})
	}
	f.Fuzz(func(t *testing.T, most, n, m int, a, b, c uint64, ways []byte) {
		w := newTwins(t, most&127, plain)
		g := api.Func{a, b, c, a ^ b}
		for i, way := range ways[:min(len(ways), 40)] {
			j := int(way >> 2)
			switch way & 3 {
			case 0:
				w.swap(t, j&7)
			case 1:
				w.free(t, j+i)
			case 2:
				w.build(t, cof.Cof(g, j&7, j > 31))
				g = api.Func{g[3], g[0] ^ a, g[1] + b, g[2]}
			default:
				w.canon(t, 3*j, []int{j, i, j + i, n, j}[:j%6])
			}
		}
		for _, roots := range [][]int{{n, m, 2, 4, 6, 8, 2}, {m, 3, n}, {n}, {1, m}, nil} {
			for _, most := range []int{most, n, m, n & 255, m & 32767} {
				w.canon(t, most, roots)
				w.canon(t, most, there(w, roots))
			}
			w.build(t, g)
		}
	})
}

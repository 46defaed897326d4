package sift_test

import (
	"bower/api"
	"bower/cof"
	"bower/read"
	"bower/sift"
	"bower/size"
	"bower/store"
	"bower/tab"
	"cmp"
	"math"
	"math/rand"
	"slices"
	"testing"
)

// edges are numbers that are no node's, no variable's and no constant's: the nearest, those that wrap onto right ones, the least and the greatest.
var edges = []int{-1, -2, -3, -8, -64, 20002, 20003, 65536, 65538, 1<<31 - 1, 1 << 31, -1 << 31, 1 << 32, 1<<32 + 1, 1<<32 + 2, 1<<32 + 3, -1 << 32, 2 - 1<<32, 1 << 62, -1 << 62, math.MaxInt - 1, math.MaxInt, math.MinInt, math.MinInt + 1, math.MinInt + 2, math.MinInt + 3, math.MinInt + 4}

var plain = [8]int{0, 1, 2, 3, 4, 5, 6, 7}

// inOrder is a store of so many, without nodes, whose levels were exchanged until the order is the one that is asked.
func inOrder(t *testing.T, most int, order [8]int) *store.Store {
	t.Helper()
	s := store.New(most)
	for l, v := range order {
		now := s.Order()
		for at := slices.Index(now[:], v); at > l; at-- {
			if err := s.Swap(at - 1); err != nil {
				t.Fatal(err)
			}
		}
	}
	if s.Order() != order {
		t.Fatalf("the order is %v, not %v", s.Order(), order)
	}
	return s
}

// orders are the plain one, it turned, two that part neighbours, and some with no shape.
func orders() [][8]int {
	l := [][8]int{plain, {7, 6, 5, 4, 3, 2, 1, 0}, {0, 2, 4, 6, 1, 3, 5, 7}, {6, 0, 7, 1, 5, 2, 4, 3}}
	r := rand.New(rand.NewSource(61))
	for range 4 {
		l = append(l, [8]int(r.Perm(api.Vars)))
	}
	return l
}

// shapeless is any function.
func shapeless(r *rand.Rand) api.Func {
	return api.Func{r.Uint64(), r.Uint64(), r.Uint64(), r.Uint64()}
}

// simple is a function of some variables alone.
func simple(r *rand.Rand) api.Func {
	f := shapeless(r)
	for range 3 + r.Intn(5) {
		f = cof.Cof(f, r.Intn(8), r.Intn(2) == 1)
	}
	return f
}

// paired is variables by twos: what hangs on the order most.
func paired(vars ...int) api.Func {
	f, half := tab.Const(false), len(vars)/2
	for i := range half {
		f = tab.Or(f, tab.And(tab.Var(vars[i]), tab.Var(vars[i+half])))
	}
	return f
}

// view is all that can be seen of a store.
type view struct {
	order      [8]int
	live, room int
	nums       []int
	nodes      []api.Node
}

func look(s *store.Store) view {
	w := view{order: s.Order(), live: s.Live(), room: s.Room(), nums: s.All()}
	for _, n := range w.nums {
		is, _ := s.Node(n)
		w.nodes = append(w.nodes, is)
	}
	return w
}

func (w view) is(v view) bool {
	return w.order == v.order && w.live == v.live && w.room == v.room && slices.Equal(w.nums, v.nums) && slices.Equal(w.nodes, v.nodes)
}

// functions are those of all nodes and of the constants, as chapter 7 tells them.
func functions(s *store.Store) map[int]api.Func {
	l := map[int]api.Func{0: tab.Const(false), 1: tab.Const(true)}
	var of func(n int) api.Func
	of = func(n int) api.Func {
		f, ok := l[n]
		if !ok {
			is, _ := s.Node(n)
			f = tab.Ite(tab.Var(is.Var), of(is.Hi), of(is.Lo))
			l[n] = f
		}
		return f
	}
	for _, n := range s.All() {
		of(n)
	}
	return l
}

// level is where a variable stands.
func level(s *store.Store, v int) int {
	order := s.Order()
	return slices.Index(order[:], v)
}

// reached is what chapter 8 says of Reach: the nodes among roots, and again and again their Lo and Hi, until there is no other.
func reached(s *store.Store, roots []int) map[int]bool {
	met := map[int]bool{}
	for _, n := range roots {
		met[n] = true
	}
	all := look(s)
	for more := true; more; {
		more = false
		for i, n := range all.nums {
			is := all.nodes[i]
			if met[n] && !(met[is.Lo] && met[is.Hi]) {
				met[is.Lo], met[is.Hi], more = true, true, true
			}
		}
	}
	return met
}

// free is what chapter 12 says of Sweep, by the store's calls alone: what isn't reached goes by the level, then by the number.
func free(t *testing.T, s *store.Store, roots []int) {
	t.Helper()
	keep := reached(s, roots)
	gone := slices.DeleteFunc(s.All(), func(n int) bool { return keep[n] })
	at := map[int]int{}
	for _, n := range gone {
		is, _ := s.Node(n)
		at[n] = level(s, is.Var)
	}
	slices.SortFunc(gone, func(n, m int) int { return cmp.Or(at[n]-at[m], n-m) })
	for _, n := range gone {
		if err := s.Free(n); err != nil {
			t.Fatalf("by the words %v go, and %d can't: %v", gone, n, err)
		}
	}
}

// come is a level to which the variable came, and how many nodes there were.
type come struct{ level, live int }

// tale is what happened by the chapter's words: where the variable came, and why each of the three ways ended.
type tale struct {
	first, down, up, back []come
	overDown, overUp      bool
	fullDown, fullUp      bool
	fullBack              bool
	best                  come
}

// words is the chapter's words, by the store's calls alone.
func words(t *testing.T, s *store.Store, roots []int, v, grow int) tale {
	t.Helper()
	var w tale
	step := func(l int, to *[]come) bool {
		if err := s.Swap(l); err != nil {
			if err != api.ErrFull {
				t.Fatalf("Swap(%d) tells %v", l, err)
			}
			return false
		}
		free(t, s, roots)
		*to = append(*to, come{level(s, v), s.Live()})
		return true
	}
	free(t, s, roots)
	w.first = []come{{level(s, v), s.Live()}}
	for level(s, v) < 7 && !w.overDown && !w.fullDown {
		w.fullDown = !step(level(s, v), &w.down)
		w.overDown = !w.fullDown && s.Live() > grow
	}
	for level(s, v) > 0 && !w.overUp && !w.fullUp {
		w.fullUp = !step(level(s, v)-1, &w.up)
		w.overUp = !w.fullUp && s.Live() > grow
	}
	w.best = slices.MinFunc(slices.Concat(w.first, w.down, w.up), func(a, b come) int { return a.live - b.live })
	for level(s, v) < w.best.level && !w.fullBack {
		w.fullBack = !step(level(s, v), &w.back)
	}
	for level(s, v) > w.best.level && !w.fullBack {
		w.fullBack = !step(level(s, v)-1, &w.back)
	}
	return w
}

// met counts what happened in many tales.
type met map[string]int

func (m met) add(name string, is bool) {
	if is {
		m[name]++
	}
}

func (m met) tale(w tale, was, grow int) {
	first, best := w.first[0], w.best
	steps := slices.Concat(w.down, w.up)
	m.add("the first sweep frees", was > first.live)
	m.add("best at first", best == first && len(steps) > 0)
	m.add("best below", best.level > first.level)
	m.add("best ahead", best.level < first.level)
	m.add("best over grow", best.live > grow && best != first)
	m.add("best is just grow", best.live == grow && best != first)
	m.add("another as good as the best", slices.ContainsFunc(steps, func(c come) bool { return c.live == best.live && c.level != best.level }))
	m.add("a step to one more than grow", slices.ContainsFunc(steps, func(c come) bool { return c.live == grow+1 }))
	m.add("a step to just grow", slices.ContainsFunc(steps, func(c come) bool { return c.live == grow }))
	m.add("down ends over", w.overDown && last(w.down).level < 7)
	m.add("up ends over", w.overUp && last(w.up).level > 0)
	m.add("up ends over at first", w.overUp && len(w.down) > 0 && last(w.up) == first && first.level > 0)
	m.add("down alone ends over", w.overDown && !w.overUp && !w.fullUp && last(w.down).level < 7 && first.level > 0)
	m.add("up alone ends over", w.overUp && !w.overDown && !w.fullDown && last(w.up).level > 0 && first.level < 7)
	m.add("down finds no room", w.fullDown)
	m.add("down finds no room behind a step", w.fullDown && len(w.down) > 0)
	m.add("up finds no room", w.fullUp)
	m.add("up finds no room ahead of the first", w.fullUp && len(w.up) > len(w.down))
	m.add("back goes down", len(w.back) > 0 && last(steps).level < best.level)
	m.add("back goes up", len(w.back) > 0 && last(steps).level > best.level)
	m.add("back finds no room", w.fullBack)
	m.add("back finds no room behind a step", w.fullBack && len(w.back) > 0)
}

// last is the last one of a list that has one.
func last(l []come) come { return l[len(l)-1] }

// were holds that all of these happened, so often each.
func (m met) were(t *testing.T, often int, names ...string) {
	t.Helper()
	for _, name := range names {
		if m[name] < often {
			t.Errorf("%s: %d times", name, m[name])
		}
	}
}

// handed asks, and holds that neither the roots nor what lies behind them in one array change.
func handed(t *testing.T, roots []int, ask func(roots []int) error) error {
	t.Helper()
	if roots == nil {
		return ask(nil)
	}
	whole := append(slices.Clone(roots), slices.Repeat([]int{-77}, 40)...)
	was := slices.Clone(whole)
	err := ask(whole[:len(roots)])
	if !slices.Equal(whole, was) {
		t.Fatalf("the roots %v, and what lies behind them, are %v", roots, whole)
	}
	return err
}

// twins are two stores to which the same is done: one is asked by Sift and All, the other by the chapter's words.
// So what can't be seen of a store, the turn of the numbers that were given back, is held too, by what is made later.
type twins struct{ s, other *store.Store }

func newTwins(t *testing.T, most int, order [8]int) twins {
	t.Helper()
	return twins{inOrder(t, most, order), inOrder(t, most, order)}
}

// same holds all that can be seen of one against the other.
func (w twins) same(t *testing.T) {
	t.Helper()
	if is, want := look(w.s), look(w.other); !is.is(want) {
		t.Fatalf("the store is %v, not %v", is, want)
	}
}

// sift holds what Sift leaves against the chapter's words, and against what follows from them.
func (w twins) sift(t *testing.T, roots []int, v, grow int, m met) tale {
	t.Helper()
	was, of := look(w.s), functions(w.s)
	if err := handed(t, roots, func(roots []int) error { return sift.Sift(w.s, roots, v, grow) }); err != nil {
		t.Fatalf("Sift of %v, %d, %d tells %v", roots, v, grow, err)
	}
	tale := words(t, w.other, roots, v, grow)
	m.tale(tale, was.live, grow)
	w.same(t)
	w.follows(t, was, of, roots)
	now := look(w.s).order
	if others := without(now, v); !slices.Equal(others, without(was.order, v)) {
		t.Fatalf("by Sift of %d %v becomes %v", v, was.order, now)
	}
	if !tale.fullBack && level(w.s, v) != tale.best.level {
		t.Fatalf("by Sift of %d it stands at %d, not %d", v, level(w.s, v), tale.best.level)
	}
	if !tale.fullBack && thereAll(was, roots) && w.s.Live() > tale.first[0].live {
		t.Fatalf("by Sift of %v, %d, %d there are %d, not %d", roots, v, grow, w.s.Live(), tale.first[0].live)
	}
	return tale
}

// all is sift of All.
func (w twins) all(t *testing.T, roots []int, grow int, m met) {
	t.Helper()
	was, of := look(w.s), functions(w.s)
	if err := handed(t, roots, func(roots []int) error { return sift.All(w.s, roots, grow) }); err != nil {
		t.Fatalf("All of %v, %d tells %v", roots, grow, err)
	}
	room, first := true, 0
	for v := range api.Vars {
		live := w.other.Live()
		tale := words(t, w.other, roots, v, grow)
		m.tale(tale, live, grow)
		room = room && !tale.fullBack
		if v == 0 {
			first = tale.first[0].live
		}
	}
	w.same(t)
	w.follows(t, was, of, roots)
	if room && thereAll(was, roots) && w.s.Live() > first {
		t.Fatalf("by All of %v, %d there are %d, not %d", roots, grow, w.s.Live(), first)
	}
}

// follows holds that all roots that were there are, and are the functions that they were, that what is there is of use, and that there is room for as many as ever.
func (w twins) follows(t *testing.T, was view, of map[int]api.Func, roots []int) {
	t.Helper()
	now := functions(w.s)
	for _, n := range roots {
		f, is := now[n]
		if want, ok := of[n]; ok && (!is || f != want) {
			t.Fatalf("the root %d is %x, not %x", n, f, want)
		}
	}
	keep := reached(w.s, roots)
	for _, n := range w.s.All() {
		if !keep[n] {
			t.Fatalf("%d is left, though %v don't reach it", n, roots)
		}
	}
	if w.s.Live() != len(w.s.All()) || w.s.Live()+w.s.Room() != was.live+was.room {
		t.Fatalf("there are %d, and room for %d, behind %d and %d", w.s.Live(), w.s.Room(), was.live, was.room)
	}
}

// without is an order but for a variable.
func without(order [8]int, v int) []int {
	return slices.DeleteFunc(order[:], func(x int) bool { return x == v })
}

// thereAll tells whether each of the roots is a constant or there, or a number that none will have: what isn't there may come up by a step, and is kept then.
func thereAll(was view, roots []int) bool {
	return !slices.ContainsFunc(roots, func(n int) bool {
		return n > 1 && n < was.live+was.room+2 && !slices.Contains(was.nums, n)
	})
}

// both asks both stores the same, and tells what the first tells.
func (w twins) both(t *testing.T, ask func(s *store.Store) (int, error)) (int, error) {
	t.Helper()
	n, err := ask(w.s)
	want, wantErr := ask(w.other)
	if n != want || err != wantErr {
		t.Fatalf("one store tells %d, %v, the other %d, %v", n, err, want, wantErr)
	}
	return n, err
}

func (w twins) mk(t *testing.T, v, lo, hi int) int {
	t.Helper()
	n, err := w.both(t, func(s *store.Store) (int, error) { return s.Mk(v, lo, hi) })
	if err != nil {
		t.Fatalf("Mk(%d, %d, %d) tells %v", v, lo, hi, err)
	}
	return n
}

func (w twins) build(t *testing.T, f api.Func) (int, error) {
	t.Helper()
	return w.both(t, func(s *store.Store) (int, error) { return read.Build(s, f) })
}

func (w twins) free(t *testing.T, n int) error {
	t.Helper()
	_, err := w.both(t, func(s *store.Store) (int, error) { return 0, s.Free(n) })
	return err
}

func (w twins) swap(t *testing.T, l int) error {
	t.Helper()
	_, err := w.both(t, func(s *store.Store) (int, error) { return 0, s.Swap(l) })
	return err
}

// fill makes nodes with no shape until there is room for so many.
func (w twins) fill(t *testing.T, r *rand.Rand, room int) {
	t.Helper()
	for k := w.known(); w.s.Room() > room; {
		v, lo, hi := r.Intn(8), k[r.Intn(len(k))], k[r.Intn(len(k))]
		was := w.s.Live()
		if n, _ := w.both(t, func(s *store.Store) (int, error) { return s.Mk(v, lo, hi) }); w.s.Live() > was {
			k = append(k, n)
		}
	}
	w.same(t)
}

// known are the constants and the numbers of all nodes.
func (w twins) known() []int { return append([]int{0, 1}, w.s.All()...) }

// some are so many of the constants and the nodes, some twice.
func (w twins) some(r *rand.Rand, many int) []int {
	k, l := w.known(), []int{}
	for range many {
		l = append(l, k[r.Intn(len(k))])
	}
	return l
}

// none are numbers that are neither a constant nor there, those that were freed, and that come next, too.
func (w twins) none() []int {
	l := slices.Clone(edges)
	for n := 2; n < 410; n++ {
		if _, ok := w.s.Node(n); !ok {
			l = append(l, n)
		}
	}
	return append(l, 20000, 20001)
}

// tops are the nodes that no other has as Lo or Hi.
func (w twins) tops() []int {
	had := map[int]bool{}
	for _, is := range look(w.s).nodes {
		had[is.Lo], had[is.Hi] = true, true
	}
	return slices.DeleteFunc(w.s.All(), func(n int) bool { return had[n] })
}

// turned is a list from its end.
func turned(l []int) []int {
	l = slices.Clone(l)
	slices.Reverse(l)
	return l
}

// filled are stores of so many, with room for so many more, of nodes with no shape.
func filled(t *testing.T, seed int64, most, room int) twins {
	t.Helper()
	r := rand.New(rand.NewSource(seed))
	w := newTwins(t, most, [8]int(r.Perm(api.Vars)))
	w.fill(t, r, room)
	return w
}

// built are stores with some functions, and room for so many nodes more than these need; with it come the functions' nodes.
func built(t *testing.T, order [8]int, room int, fs ...api.Func) (twins, []int) {
	t.Helper()
	w := newTwins(t, size.Size(fs, order)+room, order)
	var roots []int
	for _, f := range fs {
		n, err := w.build(t, f)
		if err != nil {
			t.Fatal(err)
		}
		roots = append(roots, n)
	}
	if w.s.Room() != room {
		t.Fatalf("there is room for %d, not %d", w.s.Room(), room)
	}
	return w, roots
}

// kinds make stores of many kinds: that may have none, or one; without nodes, with one, with some; without room, with room for one; with numbers that were given back.
func kinds() []func(t *testing.T) twins {
	return []func(t *testing.T) twins{
		func(t *testing.T) twins { return newTwins(t, 0, orders()[4]) },
		func(t *testing.T) twins { return newTwins(t, 60, orders()[3]) },
		func(t *testing.T) twins { return filled(t, 71, 1, 0) },
		func(t *testing.T) twins { return filled(t, 72, 9, 8) },
		func(t *testing.T) twins { return filled(t, 73, 90, 40) },
		func(t *testing.T) twins { return filled(t, 74, 40, 0) },
		func(t *testing.T) twins { return filled(t, 75, 41, 1) },
		func(t *testing.T) twins {
			w, _ := built(t, orders()[5], 60, paired(0, 1, 2, 3), paired(4, 5, 6, 7, 1, 0), odd())
			return w
		},
		func(t *testing.T) twins {
			w := filled(t, 77, 100, 50)
			for _, n := range turned(w.s.All()) {
				if n%3 != 0 {
					w.free(t, n)
				}
			}
			return w
		},
	}
}

// odd is the sum of all variables, that needs as many nodes in each order.
func odd() api.Func {
	f := tab.Const(false)
	for v := range api.Vars {
		f = tab.Xor(f, tab.Var(v))
	}
	return f
}

// lists are roots of all kinds: none, constants, what isn't there; one, the same twice, one and what it has, all, some of all.
func (w twins) lists(r *rand.Rand) [][]int {
	k, none := w.known(), w.none()
	first, last := k[min(2, len(k)-1)], k[len(k)-1]
	l := [][]int{nil, {}, {0}, {1}, {1, 0, 0, 1}, edges, none, append(slices.Clone(none), 0, 1, last)}
	l = append(l, w.s.All(), append(turned(w.s.All()), w.s.All()...), w.tops())
	l = append(l, []int{first}, []int{last}, []int{last, last, first, last}, []int{0, first, -1})
	for range 3 {
		n := k[r.Intn(len(k))]
		is, _ := w.s.Node(n)
		l = append(l, []int{n}, []int{is.Lo, n}, append(slices.Clone(edges), n), []int{last + 1, n, last + 2})
	}
	return append(l, w.some(r, 2), w.some(r, 4), w.some(r, 20))
}

// grows are bounds about a number of nodes.
func grows(live int) []int {
	l := []int{0, 1, live - 1, live, live + 1, live + 2, live / 2, 2 * live, api.MaxNodes, math.MaxInt}
	return slices.DeleteFunc(l, func(n int) bool { return n < 0 })
}

// inAll does something with each list of roots, in stores of all kinds, in the order in which they were made, and behind exchanges.
func inAll(t *testing.T, do func(t *testing.T, r *rand.Rand, w twins, roots []int)) {
	t.Helper()
	for i, kind := range kinds() {
		for ways := range 2 {
			ahead := func() (*rand.Rand, twins) {
				r, w := rand.New(rand.NewSource(int64(80+9*i+ways))), kind(t)
				for range 30 * ways {
					w.swap(t, r.Intn(7))
				}
				return r, w
			}
			r, w := ahead()
			for _, roots := range w.lists(r) {
				r, w := ahead()
				do(t, r, w, roots)
			}
		}
	}
}

// P13.1, P13.2: ErrArg of what is no variable, and of a bound below 0, ahead of everything else: nothing is swept, nor exchanged, whatever the store and the roots.
func TestErrArg(t *testing.T) {
	noVar := append([]int{8, 9, 15, 16, 255, 256, 264, 1<<32 + 7, 1<<32 + 8}, edges...)
	below := slices.DeleteFunc(slices.Clone(edges), func(n int) bool { return n >= 0 })
	if len(below) < 9 {
		t.Fatal(below)
	}
	inAll(t, func(t *testing.T, r *rand.Rand, w twins, roots []int) {
		holds := func(err error) {
			t.Helper()
			if err != api.ErrArg {
				t.Fatalf("of %v %v is told", roots, err)
			}
			w.same(t)
		}
		ask := func(v, grow int) {
			t.Helper()
			holds(handed(t, roots, func(roots []int) error { return sift.Sift(w.s, roots, v, grow) }))
		}
		for i, v := range noVar {
			ask(v, i%3*100)
			ask(v, math.MaxInt)
			ask(v, below[i%len(below)])
		}
		for i, grow := range below {
			ask(i%8, grow)
			ask(7-i%8, grow)
			holds(handed(t, roots, func(roots []int) error { return sift.All(w.s, roots, grow) }))
		}
		w.fill(t, r, 0)
	})
}

// P13.1, P13.2: the chapter's example: one node, any variable, any bound, with room and without: all is as it was, and the numbers that come too.
func TestExample(t *testing.T) {
	for _, order := range orders() {
		for u := range api.Vars {
			for _, most := range []int{1, 2, 9, 20000} {
				for _, roots := range [][]int{{2}, {2, 2}, {-1, 2, 0}} {
					w := newTwins(t, most, order)
					w.mk(t, u, u&1, 1-u&1)
					is := func(err error) {
						t.Helper()
						if err != nil {
							t.Fatal(err)
						}
						w.same(t)
					}
					for _, grow := range grows(1) {
						for v := range api.Vars {
							is(sift.Sift(w.s, roots, v, grow))
						}
						is(sift.All(w.s, roots, grow))
					}
					if most > 1 {
						if n := w.mk(t, 7-u, 0, 1); n != 3 {
							t.Fatalf("the next is %d", n)
						}
					}
				}
			}
		}
	}
}

// chosen is variable 0 where 2 is 1, else variable 1, in the order 0 1 2: five nodes, the last one its own.
var chosen = []api.Node{{Var: 2, Lo: 0, Hi: 1}, {Var: 2, Lo: 1, Hi: 0}, {Var: 1, Lo: 0, Hi: 3}, {Var: 1, Lo: 2, Hi: 1}, {Var: 0, Lo: 4, Hi: 5}}

// both is variable 0, but not 2; the second node is its own.
var both = []api.Node{{Var: 2, Lo: 1, Hi: 0}, {Var: 0, Lo: 0, Hi: 2}}

// nested is neither 0 with 2, nor, where 0 isn't, 1 with 2; the last node is its own.
var nested = []api.Node{{Var: 2, Lo: 1, Hi: 0}, {Var: 1, Lo: 2, Hi: 0}, {Var: 0, Lo: 3, Hi: 2}}

// hand is a Sift, and what is known of what it leaves, the numbers that come next too, until there is no room.
type hand struct {
	order [8]int
	nodes []api.Node
	room  int
	roots []int
	v     int
	grows []int
	then  [8]int
	nums  []int
	are   []api.Node
	next  []int
}

// holds asks Sift, and holds it against what is known, by the chapter's words too.
func (h hand) holds(t *testing.T) {
	t.Helper()
	for _, grow := range h.grows {
		w := newTwins(t, len(h.nodes)+h.room, h.order)
		for _, is := range h.nodes {
			w.mk(t, is.Var, is.Lo, is.Hi)
		}
		w.sift(t, h.roots, h.v, grow, met{})
		now := look(w.s)
		if now.order != h.then || !slices.Equal(now.nums, h.nums) || !slices.Equal(now.nodes, h.are) {
			t.Fatalf("with room for %d, by %v, %d, %d, the store is %v, not %v %v %v", h.room, h.roots, h.v, grow, now, h.then, h.nums, h.are)
		}
		var next []int
		for k := append([]int{0, 1}, w.s.All()...); w.s.Room() > 0; k = append(k, next[len(next)-1]) {
			next = append(next, w.fresh(t, k))
		}
		if !slices.Equal(next, h.next) {
			t.Fatalf("with room for %d, by %v, %d, %d, then %v come, not %v", h.room, h.roots, h.v, grow, next, h.next)
		}
	}
}

// fresh makes a node that wasn't there, of what is known.
func (w twins) fresh(t *testing.T, known []int) int {
	t.Helper()
	for l, was := 7, w.s.Live(); l >= 0; l-- {
		for _, lo := range known {
			for _, hi := range known {
				n, err := w.both(t, func(s *store.Store) (int, error) { return s.Mk(s.Order()[l], lo, hi) })
				if err == nil && w.s.Live() > was {
					return n
				}
			}
		}
	}
	t.Fatalf("none can be made of %v", known)
	return 0
}

// P13.1: by hand: the order that is left, the nodes, their numbers, and the numbers that come next.
func TestByHand(t *testing.T) {
	late := [8]int{3, 4, 5, 6, 7, 0, 1, 2}
	upper := []api.Node{{Var: 0, Lo: 0, Hi: 1}, {Var: 2, Lo: 7, Hi: 3}, {Var: 1, Lo: 0, Hi: 1}}
	half := []api.Node{{Var: 2, Lo: 7, Hi: 0}, {Var: 2, Lo: 7, Hi: 1}, {Var: 0, Lo: 4, Hi: 5}, {Var: 1, Lo: 0, Hi: 1}}
	crossed := []api.Node{chosen[0], chosen[1], chosen[3], chosen[2], {Var: 0, Lo: 5, Hi: 4}}
	lower := []api.Node{{Var: 0, Lo: 0, Hi: 1}, {Var: 1, Lo: 8, Hi: 7}, {Var: 2, Lo: 1, Hi: 5}, {Var: 2, Lo: 0, Hi: 5}}
	much, all := []int{5, 6, 100, math.MaxInt}, []int{0, 1, 3, 4, 5, 6, 100, math.MaxInt}
	five := []int{2, 3, 4, 5, 6}
	for _, h := range []hand{
		// Up to the first level, where there are three; four on the way.
		{plain, chosen, 4, []int{6}, 2, much, [8]int{2, 0, 1, 3, 4, 5, 6, 7}, []int{3, 6, 7}, upper, []int{5, 4, 2, 8, 9, 10}},
		// A step down, and one up, come to more than so many each.
		{plain, chosen, 4, []int{6}, 2, []int{0, 1, 3, 4}, plain, five, chosen, []int{7, 8, 9, 10}},
		// There is no room for a step up, by one.
		{plain, chosen, 3, []int{6}, 2, all, plain, five, chosen, []int{7, 8, 9}},
		// There is none for a step down, by one, or by two.
		{plain, chosen, 1, []int{6}, 0, all, plain, five, chosen, []int{7}},
		{plain, chosen, 0, []int{6}, 0, all, plain, five, chosen, nil},
		// There is room for one step down, but not for two; behind it one goes up again, to other numbers.
		{plain, chosen, 2, []int{6}, 0, all, plain, five, crossed, []int{8, 7}},
		{plain, chosen, 3, []int{6}, 0, all, plain, five, crossed, []int{8, 7, 9}},
		// There is room for all steps, but the first one comes to more than so many, or not.
		{plain, chosen, 4, []int{6}, 0, []int{0, 1, 3, 4}, plain, five, crossed, []int{8, 7, 9, 10}},
		{plain, chosen, 4, []int{6}, 0, much, [8]int{1, 2, 0, 3, 4, 5, 6, 7}, []int{5, 6, 7, 8}, lower, []int{3, 2, 4, 9, 10}},
		// From the last level: the step up comes to more than so many, but to fewer than at the best level.
		{late, chosen, 4, []int{6}, 2, []int{0, 1, 2, 3}, [8]int{3, 4, 5, 6, 7, 0, 2, 1}, []int{4, 5, 6, 7}, half, []int{3, 2, 8, 9, 10}},
		{late, chosen, 4, []int{6}, 2, []int{4, 5, 100}, [8]int{3, 4, 5, 6, 7, 2, 0, 1}, []int{3, 6, 7}, upper, []int{5, 4, 2, 8, 9, 10}},
		// The first sweep frees some, by which there is room for steps; another level is just as good, and isn't kept.
		{plain, chosen, 0, []int{4}, 2, all, plain, []int{3, 4}, chosen[1:3], []int{2, 5, 6}},
		{plain, chosen, 1, []int{4, 1, 4}, 2, all, plain, []int{3, 4}, chosen[1:3], []int{2, 5, 6, 7}},
		// Nothing is a root.
		{plain, chosen, 0, nil, 2, all, plain, nil, nil, []int{3, 2, 5, 4, 6}},
		{late, chosen, 1, []int{0, 1, -1, 99}, 1, all, late, nil, nil, []int{3, 2, 5, 4, 6, 7}},
	} {
		h.holds(t)
	}
}

// P13.1: by hand: on the way back to the best level there is no room, be it down or up; what was come to by then stays.
func TestByHandBack(t *testing.T) {
	behind := [8]int{3, 0, 1, 2, 4, 5, 6, 7}
	down := []api.Node{{Var: 2, Lo: 1, Hi: 0}, {Var: 2, Lo: 4, Hi: 0}, {Var: 0, Lo: 0, Hi: 1}}
	up := []api.Node{{Var: 2, Lo: 1, Hi: 0}, {Var: 2, Lo: 5, Hi: 0}, {Var: 0, Lo: 3, Hi: 2}, {Var: 1, Lo: 1, Hi: 0}}
	some := []int{2, 3, 100, math.MaxInt}
	for _, h := range []hand{
		// There is room for the step up, but none for the step back, unless there is one more; with one less there is none for either.
		{plain, both, 1, []int{3, 2}, 2, some, plain, []int{2, 3}, both, []int{4}},
		{plain, both, 2, []int{3, 2}, 2, some, [8]int{2, 0, 1, 3, 4, 5, 6, 7}, []int{2, 3, 4}, down, []int{5}},
		{plain, both, 3, []int{3, 2}, 2, some, plain, []int{2, 3}, both, []int{4, 5, 6}},
		// Two are as many as there are first: the way up ends one step ahead of where there are three.
		{plain, both, 2, []int{3, 2}, 2, []int{0, 1}, plain, []int{2, 3}, both, []int{4, 5}},
		// A step back is made, the next one isn't.
		{behind, both, 2, []int{3, 2}, 2, some, [8]int{3, 2, 0, 1, 4, 5, 6, 7}, []int{2, 3, 4}, down, []int{5}},
		{behind, both, 3, []int{3, 2}, 2, some, behind, []int{2, 3}, both, []int{4, 5, 6}},
		// The same on the way up: it isn't come back to where it began.
		{plain, nested, 1, []int{4}, 1, some, plain, []int{2, 3, 4}, nested, []int{5}},
		{plain, nested, 2, []int{4}, 1, some, [8]int{0, 2, 1, 3, 4, 5, 6, 7}, []int{2, 3, 4, 5}, up, []int{6}},
		{plain, nested, 3, []int{4}, 1, some, plain, []int{2, 3, 4}, nested, []int{5, 6, 7}},
	} {
		h.holds(t)
	}
}

// P13.1: by hand: a step's Sweep asks for the roots by their numbers: one that wasn't there, and comes up by a step, is kept then, though it is of no use else.
func TestRootThatComesUp(t *testing.T) {
	left := append(slices.Clone(nested), api.Node{Var: 1, Lo: 1, Hi: 0})
	for _, h := range []hand{
		{plain, nested, 3, []int{4, 5}, 1, []int{4, 5, 100}, plain, []int{2, 3, 4, 5}, left, []int{6, 7}},
		{plain, nested, 3, []int{4, 6}, 1, []int{4, 5, 100}, plain, []int{2, 3, 4}, nested, []int{5, 6, 7}},
	} {
		h.holds(t)
	}
}

// P13.2: by hand: each variable in its turn, from the order that the one ahead of it left: with much room and a great bound 0 goes behind 2, then 1 goes behind 2, then nothing gets better; with less 0 stays, 1 goes behind 2, and 2 goes ahead of 0 or not.
func TestAllByHand(t *testing.T) {
	for _, c := range []struct {
		room, grow int
		then       [8]int
		live       int
	}{
		{4, 100, [8]int{2, 1, 0, 3, 4, 5, 6, 7}, 3},
		{9, 5, [8]int{2, 1, 0, 3, 4, 5, 6, 7}, 3},
		{4, 4, [8]int{2, 0, 1, 3, 4, 5, 6, 7}, 3},
		{4, 3, [8]int{0, 2, 1, 3, 4, 5, 6, 7}, 4},
		{0, 100, plain, 5},
	} {
		w := newTwins(t, len(chosen)+c.room, plain)
		for _, is := range chosen {
			w.mk(t, is.Var, is.Lo, is.Hi)
		}
		w.all(t, []int{6}, c.grow, met{})
		if now := look(w.s); now.order != c.then || now.live != c.live {
			t.Errorf("with room for %d, by %d, the store is %v, not %v with %d", c.room, c.grow, now, c.then, c.live)
		}
	}
}

// bySizes is the chapter's words without a store, where there is always room: so many nodes as layer 3 tells of the roots' functions in each order.
func bySizes(fs []api.Func, order [8]int, v, grow int) ([8]int, int) {
	put := func(l int) [8]int { return [8]int(slices.Insert(without(order, v), l, v)) }
	at := slices.Index(order[:], v)
	best, few := at, size.Size(fs, order)
	counts := func() bool {
		live := size.Size(fs, put(at))
		if live < few {
			best, few = at, live
		}
		return live <= grow
	}
	for more := true; more && at < 7; {
		at++
		more = counts()
	}
	for more := true; more && at > 0; {
		at--
		more = counts()
	}
	return put(best), few
}

// sets are lists of functions: of few variables and of all, that hang on the order much and not at all.
func sets() [][]api.Func {
	r := rand.New(rand.NewSource(131))
	l := [][]api.Func{
		nil,
		{tab.Const(true)},
		{tab.Var(3)},
		{paired(0, 1, 2, 3, 4, 5, 6, 7)},
		{paired(5, 0, 3, 6)},
		{odd()},
		{shapeless(r)},
		{paired(0, 1, 2, 3), paired(4, 5, 6, 7), paired(1, 7, 0, 4)},
		{tab.Ite(tab.Var(7), tab.And(tab.Var(0), tab.Var(3)), tab.Or(tab.Var(1), tab.Var(2)))},
	}
	for i := range 9 {
		var fs []api.Func
		for range 1 + i%4 {
			fs = append(fs, simple(r))
		}
		l = append(l, fs)
	}
	return l
}

// P13.1, P13.3: in stores with much room the order, and so many nodes as layer 3 tells, by each variable and by bounds about the counts; no root's function changes.
func TestBySizes(t *testing.T) {
	moved := 0
	for i, fs := range sets() {
		for _, order := range orders()[i%3 : i%3+3] {
			for v := range api.Vars {
				for _, grow := range grows(size.Size(fs, order)) {
					w, roots := built(t, order, 2000, fs...)
					if err := sift.Sift(w.s, roots, v, grow); err != nil {
						t.Fatal(err)
					}
					want, live := bySizes(fs, order, v, grow)
					if w.s.Order() != want || w.s.Live() != live {
						t.Fatalf("Sift of %x in %v, by %d, %d, leaves %v, %d, not %v, %d", fs, order, v, grow, w.s.Order(), w.s.Live(), want, live)
					}
					if want != order {
						moved++
					}
					for i, n := range roots {
						if read.Table(w.s, n) != fs[i] {
							t.Fatalf("%d is %x, not %x", n, read.Table(w.s, n), fs[i])
						}
					}
				}
			}
		}
	}
	if moved < 300 {
		t.Fatalf("%d times the order changes", moved)
	}
}

// P13.2, P13.3: the same of All: what layer 3 tells of each variable in its turn.
func TestAllBySizes(t *testing.T) {
	turns := 0
	for _, fs := range sets() {
		for _, order := range orders()[:4] {
			for _, grow := range grows(size.Size(fs, order)) {
				w, roots := built(t, order, 2000, fs...)
				if err := sift.All(w.s, roots, grow); err != nil {
					t.Fatal(err)
				}
				want, live := order, 0
				for v := range api.Vars {
					want, live = bySizes(fs, want, v, grow)
				}
				if w.s.Order() != want || w.s.Live() != live {
					t.Fatalf("All of %x in %v, by %d, leaves %v, %d, not %v, %d", fs, order, grow, w.s.Order(), w.s.Live(), want, live)
				}
				other := order
				for v := 7; v >= 0; v-- {
					other, _ = bySizes(fs, other, v, grow)
				}
				if other != want {
					turns++
				}
				for i, n := range roots {
					if read.Table(w.s, n) != fs[i] {
						t.Fatalf("%d is %x, not %x", n, read.Table(w.s, n), fs[i])
					}
				}
			}
		}
	}
	if turns < 50 {
		t.Fatalf("%d times another turn of the variables would tell another order", turns)
	}
}

// P13.1, P13.3: with all there is on the way: nodes that no root reaches, roots that aren't there yet, little room, bounds about the counts; each of the chapter's cases comes up.
func TestEachCase(t *testing.T) {
	m := met{}
	for seed := range int64(4000) {
		r := rand.New(rand.NewSource(seed + 1000))
		var fs []api.Func
		for range 1 + r.Intn(3) {
			fs = append(fs, simple(r))
		}
		order := [8]int(r.Perm(api.Vars))
		live := size.Size(fs, order)
		w, roots := built(t, order, []int{r.Intn(4), r.Intn(live/2 + 3), r.Intn(live + 3), 300}[r.Intn(4)], fs...)
		switch r.Intn(6) {
		case 0:
			roots = roots[1:]
		case 1:
			roots = append(w.none()[len(edges):len(edges)+r.Intn(9)], roots...)
		}
		grow := max(0, live-3+r.Intn(7))
		if r.Intn(3) == 0 {
			grow = grows(live)[r.Intn(len(grows(live)))]
		}
		w.sift(t, roots, r.Intn(8), grow, m)
		w.fill(t, r, 0)
	}
	m.were(t, 30, "the first sweep frees", "best at first", "best below", "best ahead", "best over grow", "another as good as the best")
	m.were(t, 30, "a step to one more than grow", "a step to just grow", "down ends over", "up ends over", "up ends over at first", "down alone ends over", "up alone ends over")
	m.were(t, 30, "down finds no room", "down finds no room behind a step", "up finds no room", "up finds no room ahead of the first")
	m.were(t, 30, "back goes down", "back finds no room")
	m.were(t, 5, "best is just grow", "back goes up", "back finds no room behind a step")
}

// P13.1 to P13.3, R2: in stores of all kinds, by roots of all kinds: what is left is as the chapter's words have it, and the numbers that come behind it too.
func TestAsTheWords(t *testing.T) {
	m, turn := met{}, 0
	inAll(t, func(t *testing.T, r *rand.Rand, w twins, roots []int) {
		l := grows(w.s.Live())
		for range 2 {
			turn++
			w.sift(t, roots, turn%8, l[turn%len(l)], m)
			w.fill(t, r, w.s.Room()/2)
		}
		w.all(t, roots, l[r.Intn(len(l))], m)
		w.fill(t, r, 0)
	})
	m.were(t, 10, "the first sweep frees", "best at first", "best below", "best ahead", "down ends over", "up ends over", "down finds no room", "up finds no room", "back finds no room")
}

// P13.1: a variable that stands at the first level goes down alone, one at the last level up alone, in each order and by each bound, also one of which there is no node.
func TestFirstAndLast(t *testing.T) {
	m := met{}
	for _, fs := range sets() {
		for _, order := range orders() {
			for _, room := range []int{0, 7, 500} {
				for i, grow := range grows(size.Size(fs, order)) {
					w, roots := built(t, order, room, fs...)
					tale := w.sift(t, roots, order[0], grow, m)
					if up := len(tale.up) - len(tale.down); up > 0 {
						t.Fatalf("from the first level it goes up by %d", up)
					}
					if tale := w.sift(t, roots, w.s.Order()[7], grow, m); len(tale.down) > 0 {
						t.Fatalf("from the last level it goes down to %v", tale.down)
					}
					w.sift(t, roots, i%8, grow, m)
				}
			}
		}
	}
	m.were(t, 30, "best at first", "best below", "best ahead", "down finds no room", "up finds no room")
}

// P13.1, P13.2: where no order needs fewer nodes nothing happens to the order, and none is freed; so behind another Sift by the same, with room for it.
func TestNothingHappens(t *testing.T) {
	for _, order := range orders() {
		for v := range api.Vars {
			w, roots := built(t, order, 300, odd(), tab.Not(odd()))
			w.sift(t, roots, v, 200, met{})
			w.all(t, roots, 200, met{})
			if w.s.Order() != order || w.s.Live() != 16 {
				t.Fatalf("%v becomes %v, with %d", order, w.s.Order(), w.s.Live())
			}
			none := newTwins(t, 9, order)
			none.sift(t, []int{2, 3}, v, 0, met{})
			none.all(t, nil, 0, met{})
			if none.s.Order() != order {
				t.Fatalf("%v becomes %v without nodes", order, none.s.Order())
			}
			w, roots = built(t, order, 900, paired(0, 1, 2, 3, 4, 5), paired(v, v^1, v^3, v^7))
			w.sift(t, roots, v, math.MaxInt, met{})
			was, live := w.s.Order(), w.s.Live()
			w.sift(t, roots, v, math.MaxInt, met{})
			if w.s.Order() != was || w.s.Live() != live {
				t.Fatalf("%v becomes %v by the same again, %d become %d", was, w.s.Order(), live, w.s.Live())
			}
		}
	}
}

// P13.1 to P13.3, P1: a store that is as large as may be, and full: by all roots, by some, by one, by none.
func TestLargest(t *testing.T) {
	r := rand.New(rand.NewSource(63))
	w, m := newTwins(t, api.MaxNodes, orders()[3]), met{}
	roots := w.crowd(t, r)
	w.sift(t, w.s.All(), 0, math.MaxInt, m)
	w.sift(t, roots[2:], 7, api.MaxNodes, m)
	w.sift(t, roots[len(roots)/3:], 3, math.MaxInt, m)
	w.sift(t, roots[len(roots)/2:], 6, w.s.Live()/3, m)
	w.all(t, append(edges, roots[len(roots)-3:]...), api.MaxNodes, m)
	w.crowd(t, r)
	w.all(t, roots[len(roots)-1:], 9, m)
	w.crowd(t, r)
	w.sift(t, nil, 4, 0, m)
	if w.s.Live() != 0 {
		t.Fatalf("%d are left", w.s.Live())
	}
	m.were(t, 1, "the first sweep frees", "down ends over", "up ends over", "down finds no room", "up finds no room")
}

// crowd builds functions with no shape until there is no room, and tells what they are.
func (w twins) crowd(t *testing.T, r *rand.Rand) []int {
	t.Helper()
	var roots []int
	for {
		n, err := w.build(t, shapeless(r))
		if err != nil {
			break
		}
		roots = append(roots, n)
	}
	if w.s.Room() != 0 {
		t.Fatalf("there is room for %d", w.s.Room())
	}
	return roots
}

// P13.1, P13.2, R2: the list that is handed in may be one that the store told, and isn't changed; changed behind the call it changes nothing.
func TestRootsStay(t *testing.T) {
	w := filled(t, 64, 300, 200)
	all := w.s.All()
	was := slices.Clone(all)
	for i, l := range [][]int{all, all[: len(all)/2 : len(all)/2], all[3:9], all[5:6], all[:0], all} {
		w.sift(t, l, i, 100, met{})
		w.all(t, l, 100, met{})
		if !slices.Equal(all, was) {
			t.Fatalf("by %v the list is %v, not %v", l, all, was)
		}
	}
	w = filled(t, 65, 300, 200)
	roots := read.Reach(w.s, w.s.All()[40:44])
	w.sift(t, roots, 2, 1000, met{})
	w.all(t, roots, 1000, met{})
	now := look(w.s)
	for i := range roots {
		roots[i] = 2
	}
	if !look(w.s).is(now) {
		t.Fatal("the store changes with the list")
	}
	w.fill(t, rand.New(rand.NewSource(66)), 0)
}

// P13.1, P13.2, R2: nothing is kept from call to call: stores that are asked by turns, by the same and by others, are as those that are asked alone.
func TestNothingIsKept(t *testing.T) {
	r := rand.New(rand.NewSource(67))
	pairs, _ := built(t, orders()[6], 100, paired(0, 1, 2, 3, 4, 5))
	l := []twins{filled(t, 68, 90, 50), filled(t, 69, 90, 20), pairs, newTwins(t, 50, plain)}
	for range 25 {
		v, grow := r.Intn(8), r.Intn(80)
		var roots []int
		for range r.Intn(6) {
			roots = append(roots, r.Intn(40))
		}
		for _, w := range l {
			w.sift(t, roots, v, grow, met{})
			if err := sift.Sift(store.New(9), roots, v, grow); err != nil {
				t.Fatal(err)
			}
			w.swap(t, r.Intn(7))
			w.fill(t, r, w.s.Room()/2)
			w.all(t, roots, grow, met{})
		}
	}
}

// P13.1 to P13.3, P1: long ways with no shape of what is made, exchanged, freed and asked, in stores of little and of much room.
func TestLongWays(t *testing.T) {
	for seed := range int64(25) {
		r := rand.New(rand.NewSource(seed + 300))
		w := newTwins(t, []int{2, 10, 40, 90, 300}[seed%5], plain)
		for range 60 {
			step(t, r, w)
		}
		w.same(t)
	}
}

// step does anything to both stores.
func step(t *testing.T, r *rand.Rand, w twins) {
	t.Helper()
	roots := append(w.some(r, r.Intn(9)), r.Intn(w.s.Live()+9)-3)
	switch r.Intn(8) {
	case 0:
		w.build(t, simple(r))
	case 1, 2:
		k, v := w.known(), r.Intn(8)
		for range 9 {
			lo, hi := k[r.Intn(len(k))], k[r.Intn(len(k))]
			w.both(t, func(s *store.Store) (int, error) { return s.Mk(v, lo, hi) })
		}
	case 3:
		w.swap(t, r.Intn(7))
	case 4:
		w.free(t, r.Intn(w.s.Live()+5)-1)
	case 5:
		w.all(t, roots, r.Intn(2*w.s.Live()+3), met{})
	default:
		w.sift(t, roots, r.Intn(8), r.Intn(2*w.s.Live()+3), met{})
	}
}

// P1, P13.1 to P13.3: no argument makes Sift or All panic, and all is as the chapter's words tell it.
func FuzzAllArguments(f *testing.F) {
	for i, n := range append([]int{0, 1, 2, 3, 7, 255}, edges...) {
		f.Add(i*7%130, n, edges[(i+5)%len(edges)], uint64(0x123456789abcdef0), ^uint64(0), uint64(1)<<63, []byte{1, 2, 90, 30, 60, 200, 150, 3, 4, 77, 6, 9, 0, 255})
	}
	f.Fuzz(func(t *testing.T, most, n, m int, a, b, c uint64, ways []byte) {
		w := newTwins(t, most&127, plain)
		g := api.Func{a, b, c, a ^ b}
		for i, way := range ways[:min(len(ways), 40)] {
			j := int(way >> 2)
			switch way & 3 {
			case 0:
				w.swap(t, j&7)
			case 1:
				w.free(t, j+i)
			case 2:
				w.build(t, cof.Cof(g, j&7, j > 31))
				g = api.Func{g[3], g[0] ^ a, g[1] + b, g[2]}
			default:
				w.sift(t, []int{j, i, j + i, n, j}[:j%6], j&7, i*j, met{})
			}
		}
		for _, roots := range [][]int{{n, m, 2, 4, 6, 8, 2}, {m, 3, n}, nil} {
			ask(t, w, roots, n, m)
			ask(t, w, roots, m&7, n)
			w.build(t, g)
		}
	})
}

// ask asks both calls with what may be and what may not.
func ask(t *testing.T, w twins, roots []int, v, grow int) {
	t.Helper()
	if v < 0 || v > 7 || grow < 0 {
		if err := sift.Sift(w.s, roots, v, grow); err != api.ErrArg {
			t.Fatalf("Sift of %d, %d tells %v", v, grow, err)
		}
		w.same(t)
	} else {
		w.sift(t, roots, v, grow, met{})
	}
	if grow < 0 {
		if err := sift.All(w.s, roots, grow); err != api.ErrArg {
			t.Fatalf("All by %d tells %v", grow, err)
		}
		w.same(t)
		return
	}
	w.all(t, roots, grow, met{})
}

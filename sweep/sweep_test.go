package sweep_test

import (
	"bower/api"
	"bower/cof"
	"bower/read"
	"bower/store"
	"bower/sweep"
	"bower/tab"
	"cmp"
	"math"
	"math/rand"
	"slices"
	"testing"
)

// edges are numbers that are no node's and no constant's: the nearest, those that wrap onto right ones, the least and the greatest.
var edges = []int{-1, -2, -3, -8, -64, 20002, 20003, 65536, 65538, 1<<31 - 1, 1 << 31, -1 << 31, 1 << 32, 1<<32 + 1, 1<<32 + 2, 1<<32 + 3, -1 << 32, 2 - 1<<32, 1 << 62, -1 << 62, math.MaxInt - 1, math.MaxInt, math.MinInt, math.MinInt + 1, math.MinInt + 2, math.MinInt + 3, math.MinInt + 4}

var plain = [8]int{0, 1, 2, 3, 4, 5, 6, 7}

// inOrder is a store of so many, without nodes, whose levels were exchanged until the order is the one that is asked.
func inOrder(t *testing.T, most int, order [8]int) *store.Store {
	t.Helper()
	s := store.New(most)
	for l, v := range order {
		now := s.Order()
		for at := slices.Index(now[:], v); at > l; at-- {
			if err := s.Swap(at - 1); err != nil {
				t.Fatal(err)
			}
		}
	}
	if s.Order() != order {
		t.Fatalf("the order is %v, not %v", s.Order(), order)
	}
	return s
}

// orders are the plain one, it turned, two that part neighbours, and some with no shape.
func orders() [][8]int {
	l := [][8]int{plain, {7, 6, 5, 4, 3, 2, 1, 0}, {0, 2, 4, 6, 1, 3, 5, 7}, {6, 0, 7, 1, 5, 2, 4, 3}}
	r := rand.New(rand.NewSource(61))
	for range 4 {
		l = append(l, [8]int(r.Perm(api.Vars)))
	}
	return l
}

// shapeless is any function.
func shapeless(r *rand.Rand) api.Func {
	return api.Func{r.Uint64(), r.Uint64(), r.Uint64(), r.Uint64()}
}

// simple is a function of some variables alone.
func simple(r *rand.Rand) api.Func {
	f := shapeless(r)
	for range 3 + r.Intn(5) {
		f = cof.Cof(f, r.Intn(8), r.Intn(2) == 1)
	}
	return f
}

// view is all that can be seen of a store.
type view struct {
	order      [8]int
	live, room int
	nums       []int
	nodes      []api.Node
}

func look(s *store.Store) view {
	w := view{order: s.Order(), live: s.Live(), room: s.Room(), nums: s.All()}
	for _, n := range w.nums {
		is, _ := s.Node(n)
		w.nodes = append(w.nodes, is)
	}
	return w
}

func (w view) is(v view) bool {
	return w.order == v.order && w.live == v.live && w.room == v.room && slices.Equal(w.nums, v.nums) && slices.Equal(w.nodes, v.nodes)
}

// functions are those of all nodes and of the constants, as chapter 7 tells them.
func functions(s *store.Store) map[int]api.Func {
	l := map[int]api.Func{0: tab.Const(false), 1: tab.Const(true)}
	var of func(n int) api.Func
	of = func(n int) api.Func {
		f, ok := l[n]
		if !ok {
			is, _ := s.Node(n)
			f = tab.Ite(tab.Var(is.Var), of(is.Hi), of(is.Lo))
			l[n] = f
		}
		return f
	}
	for _, n := range s.All() {
		of(n)
	}
	return l
}

// reached is what chapter 8 says of Reach: the nodes among roots, and again and again their Lo and Hi, until there is no other.
func reached(s *store.Store, roots []int) []int {
	met := map[int]bool{}
	for _, n := range roots {
		met[n] = true
	}
	for more := true; more; {
		more = false
		for _, n := range s.All() {
			is, _ := s.Node(n)
			if met[n] && !(met[is.Lo] && met[is.Hi]) {
				met[is.Lo], met[is.Hi], more = true, true, true
			}
		}
	}
	return slices.DeleteFunc(s.All(), func(n int) bool { return !met[n] })
}

// goers are what the chapter's words free, in turn: what isn't among some, by the level, then by the number.
func goers(s *store.Store, but []int) []int {
	order := s.Order()
	level := func(n int) int {
		is, _ := s.Node(n)
		return slices.Index(order[:], is.Var)
	}
	l := slices.DeleteFunc(s.All(), func(n int) bool {
		_, ok := slices.BinarySearch(but, n)
		return ok
	})
	slices.SortFunc(l, func(n, m int) int { return cmp.Or(level(n)-level(m), n-m) })
	return l
}

// words is the chapter's words, by the store's calls alone: each that goes is freed in its turn, and none of these is refused.
func words(t *testing.T, s *store.Store, roots []int) int {
	t.Helper()
	l := goers(s, reached(s, roots))
	for _, n := range l {
		if err := s.Free(n); err != nil {
			t.Fatalf("by the words %v go, and %d can't: %v", l, n, err)
		}
	}
	return len(l)
}

// handed asks Sweep, and holds that neither the roots nor what lies behind them in one array change.
func handed(t *testing.T, s *store.Store, roots []int) int {
	t.Helper()
	if roots == nil {
		return sweep.Sweep(s, nil)
	}
	whole := append(slices.Clone(roots), slices.Repeat([]int{-77}, s.Live()+9)...)
	was := slices.Clone(whole)
	many := sweep.Sweep(s, whole[:len(roots)])
	if !slices.Equal(whole, was) {
		t.Fatalf("by Sweep of %v the roots, and what lies behind them, are %v", roots, whole)
	}
	return many
}

// comes are the numbers of so many nodes that are made now, in turn.
func comes(t *testing.T, s *store.Store, many int) []int {
	t.Helper()
	var nums []int
	order := s.Order()
	for l := 7; l >= 0 && len(nums) < many; l-- {
		k := behind(s, order, l)
		for i := 0; i < len(k)*len(k) && len(nums) < many; i++ {
			was := s.Live()
			if n, _ := s.Mk(order[l], k[i/len(k)], k[i%len(k)]); s.Live() > was {
				nums = append(nums, n)
			}
		}
	}
	if len(nums) < many {
		t.Fatalf("of %d just %v could be made", many, nums)
	}
	return nums
}

// behind are the constants and all nodes behind a level.
func behind(s *store.Store, order [8]int, l int) []int {
	return append([]int{0, 1}, slices.DeleteFunc(s.All(), func(n int) bool {
		is, _ := s.Node(n)
		return slices.Index(order[:], is.Var) <= l
	})...)
}

// turned is a list from its end.
func turned(l []int) []int {
	l = slices.Clone(l)
	slices.Reverse(l)
	return l
}

// twins are two stores to which the same is done: one is asked by Sweep, the other by the chapter's words.
// So what can't be seen of a store, the turn of the numbers that were given back, is held too, by what is made later.
type twins struct{ s, other *store.Store }

func newTwins(t *testing.T, most int, order [8]int) twins {
	t.Helper()
	return twins{inOrder(t, most, order), inOrder(t, most, order)}
}

// same holds all that can be seen of one against the other.
func (w twins) same(t *testing.T) {
	t.Helper()
	if is, want := look(w.s), look(w.other); !is.is(want) {
		t.Fatalf("the store is %v, not %v", is, want)
	}
}

// sweep holds what Sweep tells, and leaves, against the chapter's words, and that asked again it frees nothing: that isn't done to the other store.
func (w twins) sweep(t *testing.T, roots []int) int {
	t.Helper()
	was, of, keep := look(w.s), functions(w.s), reached(w.s, roots)
	many, want := handed(t, w.s, roots), words(t, w.other, roots)
	if many != want || many != was.live-len(keep) {
		t.Fatalf("Sweep of %v tells %d, not %d", roots, many, want)
	}
	w.same(t)
	w.stays(t, was, of, keep)
	for _, l := range [][]int{roots, keep} {
		if again := handed(t, w.s, l); again != 0 {
			t.Fatalf("swept again by %v it frees %d", l, again)
		}
		w.same(t)
	}
	return many
}

// sweepIs holds sweep against what is known of it.
func (w twins) sweepIs(t *testing.T, roots []int, want int) {
	t.Helper()
	if many := w.sweep(t, roots); many != want {
		t.Fatalf("Sweep of %v tells %d, not %d", roots, many, want)
	}
}

// stays holds that there are just the nodes that are to be kept, with their numbers, their nodes and their functions, in the order that was, and that Live and Room tell it.
func (w twins) stays(t *testing.T, was view, of map[int]api.Func, keep []int) {
	t.Helper()
	now := look(w.s)
	if !slices.Equal(now.nums, keep) || now.order != was.order {
		t.Fatalf("%v are left, in the order %v, not %v, in the order %v", now.nums, now.order, keep, was.order)
	}
	if now.live != len(keep) || now.room != was.room+was.live-len(keep) {
		t.Fatalf("%d are told, and room for %d: of %d and %d there were %d to be left", now.live, now.room, was.live, was.room, len(keep))
	}
	for i, n := range now.nums {
		if at, _ := slices.BinarySearch(was.nums, n); now.nodes[i] != was.nodes[at] {
			t.Fatalf("%d is %v, not %v", n, now.nodes[i], was.nodes[at])
		}
	}
	for _, n := range was.nums {
		_, stays := slices.BinarySearch(keep, n)
		if _, ok := w.s.Node(n); ok != stays {
			t.Fatalf("that %d is there is told: %v, not %v", n, ok, stays)
		}
	}
	for n, f := range functions(w.s) {
		if f != of[n] {
			t.Fatalf("%d is the function %x, not %x", n, f, of[n])
		}
	}
}

// both asks both stores the same, and tells what the first tells.
func (w twins) both(t *testing.T, ask func(s *store.Store) (int, error)) (int, error) {
	t.Helper()
	n, err := ask(w.s)
	want, wantErr := ask(w.other)
	if n != want || err != wantErr {
		t.Fatalf("one store tells %d, %v, the other %d, %v", n, err, want, wantErr)
	}
	return n, err
}

func (w twins) mk(t *testing.T, v, lo, hi int) int {
	t.Helper()
	n, err := w.both(t, func(s *store.Store) (int, error) { return s.Mk(v, lo, hi) })
	if err != nil {
		t.Fatalf("Mk(%d, %d, %d) tells %v", v, lo, hi, err)
	}
	return n
}

func (w twins) build(t *testing.T, f api.Func) (int, error) {
	t.Helper()
	return w.both(t, func(s *store.Store) (int, error) { return read.Build(s, f) })
}

func (w twins) free(t *testing.T, n int) error {
	t.Helper()
	_, err := w.both(t, func(s *store.Store) (int, error) { return 0, s.Free(n) })
	return err
}

func (w twins) swap(t *testing.T, l int) error {
	t.Helper()
	_, err := w.both(t, func(s *store.Store) (int, error) { return 0, s.Swap(l) })
	return err
}

// fill makes nodes with no shape until there is room for so many.
func (w twins) fill(t *testing.T, r *rand.Rand, room int) {
	t.Helper()
	for k := w.known(); w.s.Room() > room; {
		v, lo, hi := r.Intn(8), k[r.Intn(len(k))], k[r.Intn(len(k))]
		was := w.s.Live()
		if n, _ := w.both(t, func(s *store.Store) (int, error) { return s.Mk(v, lo, hi) }); w.s.Live() > was {
			k = append(k, n)
		}
	}
	w.same(t)
}

// known are the constants and the numbers of all nodes.
func (w twins) known() []int { return append([]int{0, 1}, w.s.All()...) }

// none are numbers that are neither a constant nor there, those that were freed too.
func (w twins) none() []int {
	l := slices.Clone(edges)
	for n := 2; n < 410; n++ {
		if _, ok := w.s.Node(n); !ok {
			l = append(l, n)
		}
	}
	return append(l, 20000, 20001)
}

// tops are the nodes that no other has as Lo or Hi.
func (w twins) tops() []int {
	had := map[int]bool{}
	for _, is := range look(w.s).nodes {
		had[is.Lo], had[is.Hi] = true, true
	}
	return slices.DeleteFunc(w.s.All(), func(n int) bool { return had[n] })
}

// thin frees what no other has, the greatest numbers first, but for some.
func (w twins) thin(t *testing.T) {
	t.Helper()
	for _, n := range turned(w.s.All()) {
		if n%3 != 0 {
			w.free(t, n)
		}
	}
}

// filled are stores of so many, with room for so many more, of nodes with no shape.
func filled(t *testing.T, seed int64, most, room int) twins {
	t.Helper()
	r := rand.New(rand.NewSource(seed))
	w := newTwins(t, most, [8]int(r.Perm(api.Vars)))
	w.fill(t, r, room)
	return w
}

// built are stores of so many, with some functions built in them.
func built(t *testing.T, seed int64, most int) twins {
	t.Helper()
	r := rand.New(rand.NewSource(seed))
	w := newTwins(t, most, [8]int(r.Perm(api.Vars)))
	for range 9 {
		w.build(t, simple(r))
	}
	w.same(t)
	return w
}

// kinds make stores of many kinds: that may have none, or one; without nodes, with one, with some; without room, with room for one; with numbers that were given back.
func kinds() []func(t *testing.T) twins {
	return []func(t *testing.T) twins{
		func(t *testing.T) twins { return newTwins(t, 0, plain) },
		func(t *testing.T) twins { return newTwins(t, 1, plain) },
		func(t *testing.T) twins { return newTwins(t, 60, orders()[3]) },
		func(t *testing.T) twins { return filled(t, 71, 1, 0) },
		func(t *testing.T) twins { return filled(t, 72, 9, 8) },
		func(t *testing.T) twins { return filled(t, 73, 200, 150) },
		func(t *testing.T) twins { return filled(t, 74, 60, 0) },
		func(t *testing.T) twins { return filled(t, 75, 61, 1) },
		func(t *testing.T) twins { return built(t, 76, 300) },
		func(t *testing.T) twins { w := filled(t, 77, 200, 120); w.thin(t); return w },
	}
}

// ways are what is done to a store ahead of a Sweep: nothing, exchanges of levels, frees, another Sweep, some of all.
func ways() []func(t *testing.T, r *rand.Rand, w twins) {
	exchange := func(t *testing.T, r *rand.Rand, w twins) {
		for range 30 {
			w.swap(t, r.Intn(7))
		}
	}
	free := func(t *testing.T, r *rand.Rand, w twins) {
		for range 40 {
			w.free(t, r.Intn(w.s.Live()+5))
		}
	}
	return []func(t *testing.T, r *rand.Rand, w twins){
		func(t *testing.T, r *rand.Rand, w twins) {},
		exchange,
		free,
		func(t *testing.T, r *rand.Rand, w twins) { w.sweep(t, w.some(r, 3)) },
		func(t *testing.T, r *rand.Rand, w twins) {
			exchange(t, r, w)
			free(t, r, w)
			w.sweep(t, w.some(r, 6))
			w.fill(t, r, w.s.Room()/2)
			exchange(t, r, w)
		},
	}
}

// some are so many of the constants and the nodes, some twice.
func (w twins) some(r *rand.Rand, many int) []int {
	k, l := w.known(), []int{}
	for range many {
		l = append(l, k[r.Intn(len(k))])
	}
	return l
}

// lists are roots of all kinds: none, constants, what isn't there; one, the same twice, one and what it has, all of a kind, all, some of all.
func (w twins) lists(r *rand.Rand) [][]int {
	k, none := w.known(), w.none()
	first, last := k[min(2, len(k)-1)], k[len(k)-1]
	l := [][]int{nil, {}, {0}, {1}, {1, 0, 0, 1}, none, append(slices.Clone(none), 0, 1, 0)}
	l = append(l, w.s.All(), turned(w.s.All()), append(w.s.All(), w.s.All()...), w.tops())
	l = append(l, []int{first}, []int{last}, []int{last, last, first, last}, []int{0, first, -1})
	for range 4 {
		n := k[r.Intn(len(k))]
		is, _ := w.s.Node(n)
		l = append(l, []int{n}, []int{is.Lo, is.Hi}, []int{n, is.Hi, is.Lo, n}, []int{is.Lo, n}, append([]int{n}, none...), append(slices.Clone(none), n))
	}
	return append(l, w.some(r, 2), w.some(r, 4), w.some(r, 20), append(w.some(r, 3), none[r.Intn(len(none))], 1))
}

// inAll does something with each list of roots, in stores of all kinds, behind all ways.
func inAll(t *testing.T, do func(t *testing.T, r *rand.Rand, w twins, roots []int)) {
	t.Helper()
	for i, kind := range kinds() {
		for j, way := range ways() {
			ahead := func() (*rand.Rand, twins) {
				r, w := rand.New(rand.NewSource(int64(80+9*i+j))), kind(t)
				way(t, r, w)
				return r, w
			}
			r, w := ahead()
			for _, roots := range w.lists(r) {
				r, w := ahead()
				do(t, r, w, roots)
			}
		}
	}
}

// hands are nodes on four levels, told in the place of the variable, numbers as those of a new store: on each level there are less and greater numbers than on others.
// 7, 10 and 11 are had by none; 7 has 3 and 5, 11 has 5, 10 has 9; 5 has 2 and 4, 9 has 6 and 8; 6 has 2, 8 has 4.
var hands = []api.Node{{Var: 7, Lo: 0, Hi: 1}, {Var: 2, Lo: 0, Hi: 1}, {Var: 7, Lo: 1, Hi: 0}, {Var: 2, Lo: 2, Hi: 4}, {Var: 4, Lo: 0, Hi: 2}, {Var: 0, Lo: 3, Hi: 5}, {Var: 4, Lo: 4, Hi: 1}, {Var: 2, Lo: 6, Hi: 8}, {Var: 0, Lo: 0, Hi: 9}, {Var: 0, Lo: 5, Hi: 1}}

// everyHand is all of them, in the turn in which they go.
var everyHand = []int{7, 10, 11, 3, 5, 9, 6, 8, 2, 4}

// byHand is a store with room for so many more than hands, in an order.
func byHand(t *testing.T, room int, order [8]int) twins {
	t.Helper()
	w := newTwins(t, len(hands)+room, order)
	for i, is := range hands {
		if n := w.mk(t, order[is.Var], is.Lo, is.Hi); n != i+2 {
			t.Fatalf("%v is %d, not %d", is, n, i+2)
		}
	}
	return w
}

// goes holds that by Sweep of roots just some go, in turn: the next numbers are theirs, the last one first, and then some others.
func (w twins) goes(t *testing.T, roots, gone, then []int) {
	t.Helper()
	left := slices.DeleteFunc(w.s.All(), func(n int) bool { return slices.Contains(gone, n) })
	w.sweepIs(t, roots, len(gone))
	if !slices.Equal(w.s.All(), left) {
		t.Fatalf("by Sweep of %v %v are left, not %v", roots, w.s.All(), left)
	}
	want := append(turned(gone), then...)
	if l := comes(t, w.s, len(want)); !slices.Equal(l, want) {
		t.Fatalf("behind Sweep of %v the numbers %v come, not %v", roots, l, want)
	}
	if l := comes(t, w.other, len(want)); !slices.Equal(l, want) {
		t.Fatalf("behind the words of %v the numbers %v come, not %v", roots, l, want)
	}
	w.same(t)
}

// P12.1, P12.2: the chapter's example: one goes, its number comes next; that which is a root stays.
func TestExample(t *testing.T) {
	for _, most := range []int{1, 2, 20000} {
		for _, order := range orders() {
			for v := range api.Vars {
				for _, roots := range [][]int{nil, {}, {0}, {1}, {3}, {4, 0, -2}} {
					w := newTwins(t, most, order)
					w.mk(t, v, v&1, 1-v&1)
					w.sweepIs(t, roots, 1)
					if w.s.Live() != 0 || w.s.Room() != most || len(w.s.All()) != 0 {
						t.Fatalf("there are %d, and room for %d", w.s.Live(), w.s.Room())
					}
					if n := w.mk(t, 7-v, 0, 1); n != 2 {
						t.Fatalf("the next is %d", n)
					}
					w.sweepIs(t, []int{2}, 0)
				}
			}
		}
	}
}

// P12.1: by hand, in many orders: what goes, and in which turn, by each kind of roots.
func TestByHand(t *testing.T) {
	for _, c := range []struct{ roots, gone []int }{
		{nil, everyHand},
		{[]int{}, everyHand},
		{[]int{0}, everyHand},
		{[]int{1}, everyHand},
		{[]int{1, 0, 1}, everyHand},
		{[]int{12}, everyHand},
		{edges, everyHand},
		{[]int{2}, []int{7, 10, 11, 3, 5, 9, 6, 8, 4}},
		{[]int{3}, []int{7, 10, 11, 5, 9, 6, 8, 2, 4}},
		{[]int{4}, []int{7, 10, 11, 3, 5, 9, 6, 8, 2}},
		{[]int{5}, []int{7, 10, 11, 3, 9, 6, 8}},
		{[]int{6}, []int{7, 10, 11, 3, 5, 9, 8, 4}},
		{[]int{8}, []int{7, 10, 11, 3, 5, 9, 6, 2}},
		{[]int{7}, []int{10, 11, 9, 6, 8}},
		{[]int{9}, []int{7, 10, 11, 3, 5}},
		{[]int{10}, []int{7, 11, 3, 5}},
		{[]int{11}, []int{7, 10, 3, 9, 6, 8}},
		{[]int{8, 6, 8}, []int{7, 10, 11, 3, 5, 9}},
		{[]int{10, 2}, []int{7, 11, 3, 5}},
		{[]int{2, 10}, []int{7, 11, 3, 5}},
		{[]int{9, 10, 6, 10}, []int{7, 11, 3, 5}},
		{[]int{10, 3}, []int{7, 11, 5}},
		{[]int{7, 11}, []int{10, 9, 6, 8}},
		{[]int{11, 12, 0, -1, 8}, []int{7, 10, 3, 9, 6}},
		{append([]int{5}, edges...), []int{7, 10, 11, 3, 9, 6, 8}},
		{append(slices.Clone(edges), 5), []int{7, 10, 11, 3, 9, 6, 8}},
		{[]int{7, 10}, []int{11}},
		{[]int{11, 10, 7}, nil},
		{[]int{2, 3, 4, 5, 6, 7, 8, 9, 10, 11}, nil},
		{[]int{11, 10, 9, 8, 7, 6, 5, 4, 3, 2, 1, 0, 12}, nil},
	} {
		for _, order := range orders() {
			byHand(t, 4, order).goes(t, c.roots, c.gone, []int{12, 13, 14, 15})
			byHand(t, 0, order).goes(t, c.roots, c.gone, nil)
		}
	}
}

// P12.1: the levels are those of the order that there is: nodes of two variables go in another turn when these have changed places, though the nodes are as they were.
func TestByTheOrderThatThereIs(t *testing.T) {
	for l := range 7 {
		for n, gone := range [][]int{{2, 4, 3, 5}, {3, 5, 2, 4}, {2, 4, 3, 5}} {
			w := newTwins(t, 6, plain)
			for i := range 4 {
				w.mk(t, l+i%2, i/2, 1-i/2)
			}
			was := look(w.s)
			for range n {
				w.swap(t, l)
			}
			if now := look(w.s); !slices.Equal(now.nodes, was.nodes) {
				t.Fatalf("the nodes are %v, not %v", now.nodes, was.nodes)
			}
			w.goes(t, nil, gone, []int{6, 7})
		}
	}
}

// P12.1, P12.2: behind exchanges by which nodes change, by hand: hands in the order 1 0 2 .., then 1 2 0 ..; 7, 10 and 11 are of variable 2 then, of which 3, 5 and 9 are too, and have 12 to 17, of variable 0.
func TestByHandBehindExchanges(t *testing.T) {
	made := []api.Node{{Var: 0, Lo: 0, Hi: 2}, {Var: 0, Lo: 1, Hi: 4}, {Var: 0, Lo: 0, Hi: 6}, {Var: 0, Lo: 0, Hi: 8}, {Var: 0, Lo: 2, Hi: 1}, {Var: 0, Lo: 4, Hi: 1}}
	for _, c := range []struct{ roots, gone []int }{
		{nil, []int{3, 5, 7, 9, 10, 11, 12, 13, 14, 15, 16, 17, 6, 8, 2, 4}},
		{[]int{7}, []int{3, 5, 9, 10, 11, 14, 15, 16, 17, 6, 8}},
		{[]int{9, 11}, []int{3, 5, 7, 10, 12, 13, 14, 15}},
		{[]int{14}, []int{3, 5, 7, 9, 10, 11, 12, 13, 15, 16, 17, 8, 4}},
		{[]int{11, 7, 10}, []int{3, 5, 9}},
		{[]int{7, 5, 11, 10, 9}, []int{3}},
		{[]int{3, 5, 7, 9, 10, 11}, nil},
	} {
		w := byHand(t, 8, plain)
		for l := range 2 {
			if err := w.swap(t, l); err != nil {
				t.Fatal(err)
			}
		}
		if is := look(w.s); is.order != [8]int{1, 2, 0, 3, 4, 5, 6, 7} || !slices.Equal(is.nodes[10:], made) {
			t.Fatalf("the store is %v", is)
		}
		w.goes(t, c.roots, c.gone, []int{18, 19})
	}
}

// P12.1: behind Free: what was freed isn't freed again, nor reached, be it a root; its numbers come behind those of Sweep, the last first.
func TestByHandBehindFree(t *testing.T) {
	for _, c := range []struct{ roots, gone, then []int }{
		{nil, []int{7, 11, 3, 5, 6, 8, 2, 4}, []int{9, 10, 12, 13}},
		{[]int{10}, []int{7, 11, 3, 5, 6, 8, 2, 4}, []int{9, 10, 12, 13}},
		{[]int{9, 10, 9}, []int{7, 11, 3, 5, 6, 8, 2, 4}, []int{9, 10, 12, 13}},
		{[]int{7}, []int{11, 6, 8}, []int{9, 10, 12, 13}},
		{[]int{10, 8, 9}, []int{7, 11, 3, 5, 6, 2}, []int{9, 10, 12, 13}},
		{[]int{10, 11, 7, 9, 8}, []int{6}, []int{9, 10, 12, 13}},
		{[]int{8, 7, 6, 11}, nil, []int{9, 10, 12, 13}},
	} {
		w := byHand(t, 3, plain)
		for _, n := range []int{10, 9} {
			if err := w.free(t, n); err != nil {
				t.Fatal(err)
			}
		}
		w.goes(t, c.roots, c.gone, c.then)
	}
}

// P12.1: what went by Sweep, and came again as another node, is what it is now, as a root too.
func TestWhatCameAgain(t *testing.T) {
	w := byHand(t, 2, plain)
	w.sweepIs(t, []int{7}, 5)
	for i, is := range []api.Node{{Var: 6, Lo: 0, Hi: 1}, {Var: 5, Lo: 8, Hi: 1}, {Var: 1, Lo: 6, Hi: 3}} {
		if n := w.mk(t, is.Var, is.Lo, is.Hi); n != []int{8, 6, 9}[i] {
			t.Fatalf("%v is %d", is, n)
		}
	}
	w.goes(t, []int{8, 9, 10}, []int{7, 5, 2, 4}, []int{11, 10, 12, 13})
}

// P12.1, P12.2: each set of roots of hands, with numbers that aren't there too, in many orders: what goes is what the chapter's words free, in the same turn; without room to be, and with some.
func TestAllSetsOfRoots(t *testing.T) {
	for i, order := range orders() {
		for set := range 1 << len(hands) {
			w := byHand(t, i%3, order)
			var roots []int
			for n := range hands {
				if set>>n&1 == 1 {
					roots = append(roots, n+2)
				}
			}
			if i%2 == 1 {
				roots = append(turned(roots), i, 99, -i)
			}
			then := []int{12, 13}[:i%3]
			w.goes(t, roots, goers(w.s, reached(w.s, roots)), then)
		}
	}
}

// P12.1, P12.2, R2: in stores of all kinds, behind all that changes them, by roots of all kinds: what is told and left is as the chapter's words have it, and the numbers that come behind it too.
func TestAsTheWords(t *testing.T) {
	freed, left, none := 0, 0, 0
	inAll(t, func(t *testing.T, r *rand.Rand, w twins, roots []int) {
		many := w.sweep(t, roots)
		if many > 0 {
			freed++
		} else {
			none++
		}
		if many > 0 && w.s.Live() > 0 {
			left++
		}
		w.fill(t, r, 0)
	})
	if freed < 300 || left < 300 || none < 300 {
		t.Fatalf("it frees some %d times, of these %d times not all, and none %d times", freed, left, none)
	}
}

// P12.1: the numbers that come are those that went, told by the levels and the numbers that the nodes had, in stores of all kinds.
func TestNumbersThatCome(t *testing.T) {
	inAll(t, func(t *testing.T, r *rand.Rand, w twins, roots []int) {
		w.goes(t, roots, goers(w.s, reached(w.s, roots)), nil)
	})
}

// P12.2: without roots all goes, and there is room for as many as ever.
func TestWithoutRoots(t *testing.T) {
	inAll(t, func(t *testing.T, r *rand.Rand, w twins, roots []int) {
		w.sweep(t, roots)
		for _, l := range [][]int{nil, {}, {0, 1}, edges} {
			live, most := w.s.Live(), w.s.Live()+w.s.Room()
			w.sweepIs(t, l, live)
			if w.s.Live() != 0 || w.s.Room() != most || len(w.s.All()) != 0 {
				t.Fatalf("%v are left, and room for %d of %d", w.s.All(), w.s.Room(), most)
			}
			w.fill(t, r, max(0, most-12))
		}
	})
}

// P12.1, P12.2: where all is reached, or nothing is there, nothing happens, however often, and the numbers that come are those that came else.
func TestNothingHappens(t *testing.T) {
	inAll(t, func(t *testing.T, r *rand.Rand, w twins, roots []int) {
		w.sweep(t, roots)
		all := w.s.All()
		for _, l := range [][]int{all, turned(all), w.tops(), append(w.tops(), w.none()...), append(slices.Clone(all), all...)} {
			was := look(w.s)
			for range 3 {
				if many := handed(t, w.s, l); many != 0 || !look(w.s).is(was) {
					t.Fatalf("by Sweep of %v, that reach all, %d are freed", l, many)
				}
			}
		}
		w.fill(t, r, 0)
	})
}

// P12.1: a node stays for each root that reaches it, and goes with the last of these; what shares its level stays or goes on its own.
func TestRootByRoot(t *testing.T) {
	for i, order := range orders() {
		r := rand.New(rand.NewSource(int64(90 + i)))
		w := newTwins(t, 3000, order)
		var roots []int
		for range 12 {
			n, err := w.build(t, simple(r))
			if err != nil {
				t.Fatal(err)
			}
			roots = append(roots, n)
		}
		w.sweepIs(t, roots, 0)
		for len(roots) > 0 {
			roots = roots[1:]
			w.sweep(t, roots)
			for l := range 7 {
				w.swap(t, (l*3+i)%7)
			}
			w.sweep(t, roots)
		}
		if w.s.Live() != 0 {
			t.Fatalf("%v are left", w.s.All())
		}
	}
}

// P12.1, P12.2: behind each exchange of levels, of nodes that change and that don't, what isn't reached any more goes, and each root's function stays.
func TestBehindExchanges(t *testing.T) {
	changed := 0
	for i, order := range orders() {
		r := rand.New(rand.NewSource(int64(100 + i)))
		w := newTwins(t, 4000, order)
		known := map[int]api.Func{}
		var roots []int
		for range 5 {
			f := simple(r)
			n, err := w.build(t, f)
			if err != nil {
				t.Fatal(err)
			}
			known[n], roots = f, append(roots, n)
		}
		for range 40 {
			if err := w.swap(t, r.Intn(7)); err != nil {
				t.Fatal(err)
			}
			if w.sweep(t, roots) > 0 {
				changed++
			}
			for n, f := range known {
				if read.Table(w.s, n) != f {
					t.Fatalf("%d is %x, not %x", n, read.Table(w.s, n), f)
				}
			}
		}
	}
	if changed < 50 {
		t.Fatalf("by %d exchanges something goes", changed)
	}
}

// P12.1, P12.2: a store without room has room for as many as went, no more: these are made, the next one isn't.
func TestFullStore(t *testing.T) {
	for seed := range int64(20) {
		r := rand.New(rand.NewSource(seed + 120))
		most := 1 + int(seed)*4
		w := filled(t, seed+110, most, 0)
		if n, err := w.build(t, odd()); err != api.ErrFull {
			t.Fatalf("without room Build tells %d, %v", n, err)
		}
		many := w.sweep(t, w.some(r, int(seed)%4))
		if w.s.Room() != many || w.s.Live() != most-many {
			t.Fatalf("%d went, there are %d, and room for %d", many, w.s.Live(), w.s.Room())
		}
		w.fill(t, r, 0)
		if n, err := w.build(t, odd()); err != api.ErrFull {
			t.Fatalf("without room again Build tells %d, %v", n, err)
		}
	}
}

// odd is the sum of all variables, of more nodes than one on each level but one.
func odd() api.Func {
	f := tab.Const(false)
	for v := range api.Vars {
		f = tab.Xor(f, tab.Var(v))
	}
	return f
}

// P12.1, P12.2, P1: a store that is as large as may be, and full: nothing goes, some go, all go, and behind each all numbers come again in their turn.
func TestLargest(t *testing.T) {
	r := rand.New(rand.NewSource(63))
	for _, order := range orders()[:3] {
		w := newTwins(t, api.MaxNodes, order)
		roots := w.crowd(t, r)
		w.sweepIs(t, w.s.All(), 0)
		w.sweepIs(t, append(w.tops(), w.none()...), 0)
		some := roots[len(roots)/3 : len(roots)/2]
		if many := w.sweep(t, some); many < 5000 || many > 19000 {
			t.Fatalf("%d went", many)
		}
		w.crowd(t, r)
		keep := reached(w.s, roots[:5])
		w.goes(t, roots[:5], goers(w.s, keep), nil)
		w.sweepIs(t, nil, api.MaxNodes)
		w.crowd(t, r)
		w.goes(t, []int{20001, 2}, goers(w.s, reached(w.s, []int{2, 20001})), nil)
		w.sweepIs(t, []int{20002, 1}, api.MaxNodes)
	}
}

// crowd builds functions with no shape until there is no room, and tells what they are.
func (w twins) crowd(t *testing.T, r *rand.Rand) []int {
	t.Helper()
	var roots []int
	for {
		n, err := w.build(t, shapeless(r))
		if err != nil {
			break
		}
		roots = append(roots, n)
	}
	if w.s.Room() != 0 {
		t.Fatalf("there is room for %d", w.s.Room())
	}
	w.same(t)
	return roots
}

// P12.1, P1: a great many roots, most of them twice or not there.
func TestManyRoots(t *testing.T) {
	for _, n := range []int{2, 7, 11, 12, 0, math.MinInt} {
		w := byHand(t, 2, orders()[4])
		roots := slices.Repeat([]int{n, -n, n + 1<<32, 1, n, 0}, 50000)
		roots = append(roots, 8)
		w.goes(t, roots, goers(w.s, reached(w.s, []int{n, 8})), []int{12, 13})
	}
}

// P12.1, R2: the list that is handed in may be one that the store or layer 8 told, and isn't changed; changed behind the call it changes nothing.
func TestRootsStay(t *testing.T) {
	w := filled(t, 64, 300, 200)
	all := w.s.All()
	was := slices.Clone(all)
	for _, l := range [][]int{all, all[: len(all)/2 : len(all)/2], all[3:9], all[5:6], all[:0], all} {
		w.sweep(t, l)
		if !slices.Equal(all, was) {
			t.Fatalf("by Sweep of %v the list is %v, not %v", l, all, was)
		}
	}
	w = filled(t, 65, 300, 200)
	roots := read.Reach(w.s, w.s.All()[40:44])
	w.sweep(t, roots)
	now := look(w.s)
	for i := range roots {
		roots[i] = 2
	}
	if !look(w.s).is(now) {
		t.Fatal("the store changes with the list")
	}
	w.fill(t, rand.New(rand.NewSource(66)), 0)
}

// P12.1, R2: nothing is kept from call to call: stores that are swept by turns, by the same numbers and by others, are as those that are swept alone.
func TestNothingIsKept(t *testing.T) {
	r := rand.New(rand.NewSource(67))
	l := []twins{filled(t, 68, 200, 120), filled(t, 69, 200, 80), byHand(t, 70, orders()[5]), newTwins(t, 100, plain)}
	for range 40 {
		var roots []int
		for range r.Intn(6) {
			roots = append(roots, r.Intn(60))
		}
		for _, w := range l {
			w.sweep(t, roots)
			if many := sweep.Sweep(store.New(9), roots); many != 0 {
				t.Fatalf("of a store without nodes %d go", many)
			}
			w.swap(t, r.Intn(7))
			w.fill(t, r, w.s.Room()/2)
		}
	}
}

// P12.1, P12.2, P1: long ways with no shape of what is made, exchanged, freed and swept, in stores of little and of much room.
func TestLongWays(t *testing.T) {
	for seed := range int64(25) {
		r := rand.New(rand.NewSource(seed + 300))
		w := newTwins(t, []int{2, 10, 60, 300, 1500}[seed%5], plain)
		for range 150 {
			step(t, r, w)
		}
		w.same(t)
	}
}

// step does anything to both stores.
func step(t *testing.T, r *rand.Rand, w twins) {
	t.Helper()
	switch r.Intn(7) {
	case 0:
		w.build(t, simple(r))
	case 1, 2:
		k, v := w.known(), r.Intn(8)
		for range 9 {
			lo, hi := k[r.Intn(len(k))], k[r.Intn(len(k))]
			w.both(t, func(s *store.Store) (int, error) { return s.Mk(v, lo, hi) })
		}
	case 3:
		w.swap(t, r.Intn(7))
	case 4:
		w.free(t, r.Intn(w.s.Live()+5)-1)
	default:
		roots := w.some(r, r.Intn(9))
		w.sweep(t, append(roots, r.Intn(w.s.Live()+9)-3))
	}
}

// P1, P12.1, P12.2: no argument makes Sweep panic, and all is as the chapter's words tell it.
func FuzzAllArguments(f *testing.F) {
	for i, n := range append([]int{0, 1, 2, 3, 7, 255}, edges...) {
		f.Add(i*7%130, n, edges[(i+5)%len(edges)], uint64(0x123456789abcdef0), ^uint64(0), uint64(1)<<63, []byte{1, 2, 90, 30, 60, 200, 150, 3, 4, 77, 6, 9, 0, 255})
	}
	f.Fuzz(func(t *testing.T, most, n, m int, a, b, c uint64, ways []byte) {
		w := newTwins(t, most&127, plain)
		g := api.Func{a, b, c, a ^ b}
		for i, way := range ways[:min(len(ways), 60)] {
			j := int(way >> 2)
			switch way & 3 {
			case 0:
				w.swap(t, j&7)
			case 1:
				w.free(t, j+i)
			case 2:
				w.build(t, cof.Cof(g, j&7, j > 31))
				g = api.Func{g[3], g[0] ^ a, g[1] + b, g[2]}
			default:
				w.sweep(t, []int{j, i, j + i, n, j}[:j%6])
			}
		}
		for _, roots := range [][]int{{n, m, 2, 4, 6, 8, 2}, {m, 3, n}, {n}, {m, m}, nil} {
			w.sweep(t, roots)
			w.build(t, g)
		}
	})
}

package store

import (
	"bower/api"
	"bower/tab"
	"maps"
	"math"
	"math/rand"
	"slices"
	"testing"
)

// edges are numbers that are no node's, no level's and no variable's: the nearest, those that wrap onto right ones, the least and the greatest.
var edges = []int{-1, -2, -3, -8, -64, 20002, 20003, 65536, 65538, 1<<31 - 1, 1 << 31, -1 << 31, 1 << 32, 1<<32 + 2, 1<<32 + 3, -1 << 32, 2 - 1<<32, 1 << 62, -1 << 62, math.MaxInt - 1, math.MaxInt, math.MinInt, math.MinInt + 1, math.MinInt + 2, math.MinInt + 3, math.MinInt + 4}

// plain is the order of a new store.
var plain = [8]int{0, 1, 2, 3, 4, 5, 6, 7}

// model is the chapter's words: what is there, and by what it is found; how many numbers ever were taken, and which were given back, in turn.
type model struct {
	most, live, ever int
	order            [8]int
	nodes            map[int]api.Node
	nums             map[api.Node]int
	back             []int
}

func newModel(most int) *model {
	return &model{most: most, order: plain, nodes: map[int]api.Node{}, nums: map[api.Node]int{}}
}

func (m *model) level(v int) int { return slices.Index(m.order[:], v) }

func (m *model) fits(v, n int) bool {
	is, ok := m.nodes[n]
	return n == 0 || n == 1 || ok && m.level(is.Var) > m.level(v)
}

func (m *model) mk(v, lo, hi int) (int, error) {
	if v < 0 || v > 7 || !m.fits(v, lo) || !m.fits(v, hi) {
		return 0, api.ErrArg
	}
	if lo == hi {
		return lo, nil
	}
	if n, ok := m.nums[api.Node{Var: v, Lo: lo, Hi: hi}]; ok {
		return n, nil
	}
	if m.live == m.most {
		return 0, api.ErrFull
	}
	n := m.take()
	m.lay(n, api.Node{Var: v, Lo: lo, Hi: hi})
	return n, nil
}

func (m *model) take() int {
	m.live++
	if last := len(m.back) - 1; last >= 0 {
		n := m.back[last]
		m.back = m.back[:last]
		return n
	}
	m.ever++
	return m.ever + 1
}

func (m *model) lay(n int, is api.Node) { m.nodes[n], m.nums[is] = is, n }

func (m *model) lift(n int) api.Node {
	is := m.nodes[n]
	delete(m.nodes, n)
	delete(m.nums, is)
	return is
}

func (m *model) free(n int) error {
	if _, ok := m.nodes[n]; !ok {
		return api.ErrArg
	}
	for _, is := range m.nodes {
		if is.Lo == n || is.Hi == n {
			return api.ErrArg
		}
	}
	m.lift(n)
	m.live--
	m.back = append(m.back, n)
	return nil
}

func (m *model) isOf(n, v int) bool {
	is, ok := m.nodes[n]
	return ok && is.Var == v
}

// changing are the numbers of what changes by a Swap of l, rising.
func (m *model) changing(l int) []int {
	x, y := m.order[l], m.order[l+1]
	var nums []int
	for n, is := range m.nodes {
		if is.Var == x && (m.isOf(is.Lo, y) || m.isOf(is.Hi, y)) {
			nums = append(nums, n)
		}
	}
	slices.Sort(nums)
	return nums
}

func (m *model) swap(l int) error {
	if l < 0 || l > 6 {
		return api.ErrArg
	}
	nums := m.changing(l)
	if float64(len(nums)) > float64(m.most-m.live)/2 {
		return api.ErrFull
	}
	x, y := m.order[l], m.order[l+1]
	m.order[l], m.order[l+1] = y, x
	was := map[int]api.Node{}
	for _, n := range nums {
		was[n] = m.lift(n)
	}
	for _, n := range nums {
		lo := m.must(x, m.where(was[n].Lo, y, false), m.where(was[n].Hi, y, false))
		hi := m.must(x, m.where(was[n].Lo, y, true), m.where(was[n].Hi, y, true))
		m.lay(n, api.Node{Var: y, Lo: lo, Hi: hi})
	}
	return nil
}

// where is what n is where y is 0, or 1.
func (m *model) where(n, y int, b bool) int {
	switch {
	case !m.isOf(n, y):
		return n
	case b:
		return m.nodes[n].Hi
	default:
		return m.nodes[n].Lo
	}
}

func (m *model) must(v, lo, hi int) int {
	n, err := m.mk(v, lo, hi)
	if err != nil {
		panic("a Mk within the model's swap tells an error")
	}
	return n
}

func (m *model) numbers() []int { return slices.Sorted(maps.Keys(m.nodes)) }

// both is a store and its model, to be asked the same.
type both struct {
	s *Store
	m *model
}

func newBoth(t *testing.T, most int) both {
	t.Helper()
	s := New(most)
	if s == nil {
		t.Fatalf("there is no store of %d", most)
	}
	return both{s, newModel(most)}
}

func (b both) mk(t *testing.T, v, lo, hi int) int {
	t.Helper()
	n, err := b.s.Mk(v, lo, hi)
	want, wantErr := b.m.mk(v, lo, hi)
	if n != want || err != wantErr {
		t.Fatalf("Mk(%d, %d, %d) tells %d, %v, not %d, %v", v, lo, hi, n, err, want, wantErr)
	}
	return n
}

// mkIs holds what Mk tells against the model, and against what is known of it, and that with an error nothing changes.
func (b both) mkIs(t *testing.T, v, lo, hi, want int, wantErr error) {
	t.Helper()
	if n, err := b.s.Mk(v, lo, hi); n != want || err != wantErr {
		t.Fatalf("Mk(%d, %d, %d) tells %d, %v, not %d, %v", v, lo, hi, n, err, want, wantErr)
	}
	b.m.mk(v, lo, hi)
	b.look(t)
}

func (b both) free(t *testing.T, n int) error {
	t.Helper()
	err := b.s.Free(n)
	if want := b.m.free(n); err != want {
		t.Fatalf("Free(%d) tells %v, not %v", n, err, want)
	}
	return err
}

// freeIs is mkIs of Free.
func (b both) freeIs(t *testing.T, n int, want error) {
	t.Helper()
	if err := b.free(t, n); err != want {
		t.Fatalf("Free(%d) tells %v, not %v", n, err, want)
	}
	b.look(t)
}

// swap holds what becomes of the store against the model, and that no number's function changes by it.
func (b both) swap(t *testing.T, l int) error {
	t.Helper()
	was := functions(b.s)
	err := b.s.Swap(l)
	if want := b.m.swap(l); err != want {
		t.Fatalf("Swap(%d) tells %v, not %v", l, err, want)
	}
	b.look(t)
	is := functions(b.s)
	for n, f := range was {
		if is[n] != f {
			t.Fatalf("by Swap(%d) the function of %d changes", l, n)
		}
	}
	return err
}

// swapIs is mkIs of Swap.
func (b both) swapIs(t *testing.T, l int, want error) {
	t.Helper()
	if err := b.swap(t, l); err != want {
		t.Fatalf("Swap(%d) tells %v, not %v", l, err, want)
	}
}

// look holds all that can be seen against the model, and what the chapter's head says of it.
func (b both) look(t *testing.T) {
	t.Helper()
	if b.s.Order() != b.m.order {
		t.Fatalf("the order is %v, not %v", b.s.Order(), b.m.order)
	}
	if b.s.Live() != len(b.m.nodes) || b.s.Live() != b.m.live || b.s.Room() != b.m.most-b.m.live {
		t.Fatalf("%d nodes and room for %d are told, not %d of %d", b.s.Live(), b.s.Room(), b.m.live, b.m.most)
	}
	if !slices.Equal(b.s.All(), b.m.numbers()) {
		t.Fatalf("all are %v, not %v", b.s.All(), b.m.numbers())
	}
	for n := -3; n < b.m.ever+5; n++ {
		is, ok := b.s.Node(n)
		if want, there := b.m.nodes[n]; is != want || ok != there {
			t.Fatalf("Node(%d) tells %v, %v, not %v, %v", n, is, ok, want, there)
		}
	}
	reduced(t, b.s)
}

// reduced holds a store against what the chapter's head says of nodes, by what the store tells alone.
func reduced(t *testing.T, s *Store) {
	t.Helper()
	order := s.Order()
	alike := map[api.Node]int{}
	for _, n := range s.All() {
		is, _ := s.Node(n)
		if other, ok := alike[is]; ok {
			t.Fatalf("%d and %d are alike: %v", other, n, is)
		}
		alike[is] = n
		l := slices.Index(order[:], is.Var)
		if l < 0 || is.Lo == is.Hi {
			t.Fatalf("%d is %v", n, is)
		}
		for _, below := range []int{is.Lo, is.Hi} {
			next, ok := s.Node(below)
			if below != 0 && below != 1 && (!ok || slices.Index(order[:], next.Var) <= l) {
				t.Fatalf("%d is %v, with %d, %v below it, in the order %v", n, is, below, next, order)
			}
		}
	}
}

// functions are those of all numbers, of the constants, too.
func functions(s *Store) map[int]api.Func {
	l := map[int]api.Func{0: tab.Const(false), 1: tab.Const(true)}
	var of func(n int) api.Func
	of = func(n int) api.Func {
		f, ok := l[n]
		if !ok {
			is, _ := s.Node(n)
			f = tab.Ite(tab.Var(is.Var), of(is.Hi), of(is.Lo))
			l[n] = f
		}
		return f
	}
	for _, n := range s.All() {
		of(n)
	}
	return l
}

// below are all that may be Lo or Hi of a node of v, rising.
func (b both) below(v int) []int {
	l := []int{0, 1}
	for _, n := range b.m.numbers() {
		if b.m.fits(v, n) {
			l = append(l, n)
		}
	}
	return l
}

// fill makes nodes with no shape until there are so many.
func (b both) fill(t *testing.T, r *rand.Rand, many int) {
	t.Helper()
	for b.m.live < many {
		v := r.Intn(8)
		l := b.below(v)
		b.mk(t, v, l[r.Intn(len(l))], l[r.Intn(len(l))])
	}
	b.look(t)
}

// filled is a store of so many, with so many nodes with no shape, in an order with no shape.
func filled(t *testing.T, seed int64, most, many int) both {
	t.Helper()
	r := rand.New(rand.NewSource(seed))
	b := newBoth(t, most)
	for range 30 {
		b.swapIs(t, r.Intn(7), nil)
	}
	b.fill(t, r, many)
	return b
}

// stores are of many kinds: without room, without nodes, with some, with no room left, with numbers given back.
func stores(t *testing.T) []both {
	t.Helper()
	l := []both{newBoth(t, 0), newBoth(t, 1), newBoth(t, 20000), filled(t, 1, 60, 30), filled(t, 2, 30, 30), filled(t, 3, 1, 1)}
	b := filled(t, 4, 50, 50)
	for _, n := range b.m.numbers() {
		if n%3 == 0 {
			b.free(t, n)
		}
	}
	b.look(t)
	return append(l, b)
}

// P7.1: from none to 20000, and there are no nodes.
func TestNew(t *testing.T) {
	for _, most := range []int{0, 1, 2, 3, 8, 255, 256, 10400, 19999, 20000} {
		b := newBoth(t, most)
		b.look(t)
		if s := b.s; s.Live() != 0 || s.Room() != most || len(s.All()) != 0 || s.Order() != plain {
			t.Errorf("of %d: %d are there, room for %d, all %v, in the order %v", most, s.Live(), s.Room(), s.All(), s.Order())
		}
	}
	for most := 0; most <= api.MaxNodes; most++ {
		if s := New(most); s == nil || s.Room() != most {
			t.Fatalf("there is no store of %d", most)
		}
	}
}

// P7.1, R3, P1
func TestNewOfWhatMayNotBe(t *testing.T) {
	for _, most := range append([]int{-1, api.MaxNodes + 1, -20000, -20001}, edges...) {
		if New(most) != nil {
			t.Errorf("there is a store of %d", most)
		}
	}
}

// P7.2: the chapter's example.
func TestExample(t *testing.T) {
	s := New(5)
	a, err := s.Mk(0, 0, 1)
	if err != nil || a != 2 {
		t.Errorf("Mk(0, 0, 1) tells %d, %v", a, err)
	}
	if b, err := s.Mk(0, 0, 1); err != nil || b != a {
		t.Errorf("Mk(0, 0, 1) tells %d, then %d, %v", a, b, err)
	}
}

// P7.1, P7.2: where there is room for none, all but a new node is told, and the order may change.
func TestRoomForNone(t *testing.T) {
	b := newBoth(t, 0)
	for v := range 8 {
		b.mkIs(t, v, 0, 0, 0, nil)
		b.mkIs(t, v, 1, 1, 1, nil)
		b.mkIs(t, v, 0, 1, 0, api.ErrFull)
		b.mkIs(t, v, 1, 0, 0, api.ErrFull)
		b.mkIs(t, v, 2, 0, 0, api.ErrArg)
		b.mkIs(t, v, 2, 2, 0, api.ErrArg)
	}
	for l := range 7 {
		b.swapIs(t, l, nil)
	}
	if b.s.Order() != [8]int{1, 2, 3, 4, 5, 6, 7, 0} {
		t.Errorf("the order is %v", b.s.Order())
	}
}

// P7.1, R3: what Node tells of a node, and that of the constants, of what was freed and of any other number there is none.
func TestNode(t *testing.T) {
	for _, b := range stores(t) {
		b.look(t)
		for _, n := range append([]int{0, 1, b.m.ever + 2, b.m.ever + 3, 20000, 20001, 20002}, edges...) {
			if is, ok := b.s.Node(n); is != (api.Node{}) || ok {
				t.Fatalf("Node(%d) tells %v, %v", n, is, ok)
			}
		}
	}
	b := newBoth(t, 3)
	n := b.mk(t, 7, 1, 0)
	if is, ok := b.s.Node(n); is != (api.Node{Var: 7, Lo: 1, Hi: 0}) || !ok {
		t.Errorf("Node(%d) tells %v, %v", n, is, ok)
	}
	b.freeIs(t, n, nil)
	if is, ok := b.s.Node(n); is != (api.Node{}) || ok {
		t.Errorf("behind Free Node(%d) tells %v, %v", n, is, ok)
	}
}

// P7.2, P7.5, R1, R3: what is no variable, whatever else is so: lo that is hi, a store without room.
func TestMkOfNoVariable(t *testing.T) {
	for _, b := range stores(t) {
		low := append([]int{0, 1}, b.m.numbers()...)
		for i, v := range append([]int{8, 9, 15, 16, 64, 256, 263}, edges...) {
			b.mkIs(t, v, 0, 1, 0, api.ErrArg)
			b.mkIs(t, v, 1, 1, 0, api.ErrArg)
			b.mkIs(t, v, low[i%len(low)], low[i*7%len(low)], 0, api.ErrArg)
		}
	}
}

// P7.2, P7.5, R1, R3, P1: what isn't there is neither Lo nor Hi of anything, nor is it told where lo is hi.
func TestMkOfWhatIsNotThere(t *testing.T) {
	for _, b := range stores(t) {
		none := append([]int{b.m.ever + 2, b.m.ever + 3, 20001}, edges...)
		none = append(none, b.m.back...)
		for i, n := range none {
			v := i % 8
			b.mkIs(t, v, n, 1, 0, api.ErrArg)
			b.mkIs(t, v, 0, n, 0, api.ErrArg)
			b.mkIs(t, v, n, n, 0, api.ErrArg)
			b.mkIs(t, v, n, none[(i+1)%len(none)], 0, api.ErrArg)
		}
	}
}

// P7.2, P7.5, R1: each variable with each, as Lo, as Hi and as both, in many orders: what stands ahead, or is of the same variable, may not be.
func TestMkOfWhatStandsAhead(t *testing.T) {
	r := rand.New(rand.NewSource(5))
	for range 40 {
		b := newBoth(t, 80)
		for range r.Intn(40) {
			b.swapIs(t, r.Intn(7), nil)
		}
		var of [8]int
		for v := range 8 {
			of[v] = b.mk(t, v, 0, 1)
		}
		b.swapIs(t, r.Intn(7), nil)
		for v := range 8 {
			for w, n := range of {
				holdAhead(t, b, v, w, n)
			}
		}
	}
}

// holdAhead asks for nodes of v with n, a node of w.
func holdAhead(t *testing.T, b both, v, w, n int) {
	t.Helper()
	order := b.s.Order()
	if slices.Index(order[:], v) < slices.Index(order[:], w) {
		if m := b.mk(t, v, n, n); m != n {
			t.Fatalf("Mk(%d, %d, %d) tells %d", v, n, n, m)
		}
		if m := b.mk(t, v, n, 1); m < 2 || m == n {
			t.Fatalf("Mk(%d, %d, 1) tells %d", v, n, m)
		}
		return
	}
	b.mkIs(t, v, n, n, 0, api.ErrArg)
	b.mkIs(t, v, n, 1, 0, api.ErrArg)
	b.mkIs(t, v, 0, n, 0, api.ErrArg)
}

// P7.2: a node of which one may be and the other may not, be that Lo or Hi.
func TestMkWithOneWrong(t *testing.T) {
	b := newBoth(t, 9)
	six, four, two := b.mk(t, 6, 0, 1), b.mk(t, 4, 0, 1), b.mk(t, 2, 0, 1)
	for _, right := range []int{0, 1, six} {
		for _, wrong := range []int{four, two, 5, 6, -1, -2, math.MinInt, math.MaxInt} {
			b.mkIs(t, 4, right, wrong, 0, api.ErrArg)
			b.mkIs(t, 4, wrong, right, 0, api.ErrArg)
		}
	}
	b.mkIs(t, 4, six, 1, 5, nil)
	b.mkIs(t, 2, four, six, 6, nil)
}

// P7.2: where lo is hi it is told, and nothing is made, be there room or none.
func TestMkOfLoThatIsHi(t *testing.T) {
	for _, b := range stores(t) {
		for v := range 8 {
			for _, n := range b.below(v) {
				b.mkIs(t, v, n, n, n, nil)
			}
		}
	}
}

// P7.2: a node that there is is told, be there room or none, and nothing is made.
func TestMkOfWhatIsThere(t *testing.T) {
	for _, b := range stores(t) {
		for range 2 {
			for n, is := range b.m.nodes {
				if got, err := b.s.Mk(is.Var, is.Lo, is.Hi); got != n || err != nil {
					t.Fatalf("Mk of %v, which is %d, tells %d, %v", is, n, got, err)
				}
			}
			b.look(t)
		}
	}
}

// P7.2: by its variable, its Lo and its Hi a node is told from all others; all of two levels are laid, by rising numbers.
func TestMkTellsNodesApart(t *testing.T) {
	b := newBoth(t, 200)
	want := 2
	for v := 7; v >= 4; v-- {
		for _, p := range [][2]int{{0, 1}, {1, 0}} {
			b.mkIs(t, v, p[0], p[1], want, nil)
			want++
		}
	}
	for v := range 4 {
		for lo := range 10 {
			for hi := range 10 {
				if lo != hi && (lo+2*hi)%3 != 0 {
					b.mkIs(t, v, lo, hi, want, nil)
					want++
				}
			}
			if v > 1 {
				break
			}
		}
	}
}

// P7.2, P7.5, R3: without room no new node is told, and nothing changes, but all that isn't new is told; what is freed is room.
func TestMkWithoutRoom(t *testing.T) {
	for _, most := range []int{1, 2, 3, 12} {
		b := newBoth(t, most)
		for i := range most {
			b.mkIs(t, i/2, i%2, 1-i%2, i+2, nil)
		}
		for range 3 {
			b.mkIs(t, 7, 0, 1, 0, api.ErrFull)
			b.mkIs(t, 7, 1, 0, 0, api.ErrFull)
			b.mkIs(t, 7, 1, 1, 1, nil)
			b.mkIs(t, 0, 0, 1, 2, nil)
			b.mkIs(t, 8, 0, 1, 0, api.ErrArg)
			b.mkIs(t, 7, most+2, 1, 0, api.ErrArg)
		}
		b.freeIs(t, most+1, nil)
		b.mkIs(t, 7, 1, 0, most+1, nil)
		b.mkIs(t, 7, 0, 1, 0, api.ErrFull)
		b.freeIs(t, most+1, nil)
		b.freeIs(t, most+1, api.ErrArg)
		b.mkIs(t, 7, 0, 1, most+1, nil)
	}
}

// P7.2, P7.3: of the numbers given back the last one is taken first, ahead of those that never were.
func TestNumbersGivenBack(t *testing.T) {
	b := newBoth(t, 9)
	for v := range 6 {
		b.mkIs(t, v, 0, 1, v+2, nil)
	}
	for _, n := range []int{4, 2, 7, 3} {
		b.freeIs(t, n, nil)
	}
	b.mkIs(t, 7, 0, 1, 3, nil)
	b.mkIs(t, 7, 0, 1, 3, nil)
	b.mkIs(t, 7, 1, 1, 1, nil)
	b.mkIs(t, 7, 8, 1, 0, api.ErrArg)
	b.mkIs(t, 0, 0, 1, 7, nil)
	b.freeIs(t, 3, nil)
	for i, n := range []int{3, 2, 4, 8, 9, 10} {
		b.mkIs(t, i, 1, 0, n, nil)
	}
	b.mkIs(t, 6, 1, 0, 0, api.ErrFull)
}

// P7.3, P7.5: the constants, what isn't there, what was freed, the least and the greatest numbers.
func TestFreeOfWhatIsNotThere(t *testing.T) {
	for _, b := range stores(t) {
		none := append([]int{0, 1, b.m.ever + 2, b.m.ever + 3, 20000, 20001, 20002}, edges...)
		none = append(none, b.m.back...)
		for _, n := range none {
			b.freeIs(t, n, api.ErrArg)
		}
		b.fill(t, rand.New(rand.NewSource(6)), min(b.m.most, 40))
	}
}

// P7.3: what was freed isn't there, and is made anew; twice it isn't freed.
func TestFree(t *testing.T) {
	b := newBoth(t, 4)
	two, three := b.mk(t, 2, 0, 1), b.mk(t, 2, 1, 0)
	b.freeIs(t, two, nil)
	b.freeIs(t, two, api.ErrArg)
	b.mkIs(t, 1, two, 1, 0, api.ErrArg)
	b.mkIs(t, 1, two, two, 0, api.ErrArg)
	b.freeIs(t, three, nil)
	b.mkIs(t, 2, 0, 1, three, nil)
	b.mkIs(t, 2, 1, 0, two, nil)
	b.mkIs(t, 1, two, three, 4, nil)
}

// P7.3, P7.5: what one node, or more of them, has as Lo or as Hi isn't freed, until the last of these is.
func TestFreeOfWhatIsBelow(t *testing.T) {
	for _, asHi := range []bool{false, true} {
		b := newBoth(t, 20)
		n := b.mk(t, 6, 1, 0)
		var above []int
		for v := range 6 {
			lo, hi := n, v%2
			if asHi == (v%3 != 0) {
				lo, hi = hi, lo
			}
			above = append(above, b.mk(t, v, lo, hi))
		}
		for _, a := range above {
			b.freeIs(t, n, api.ErrArg)
			b.mk(t, 6, 1, 0)
			b.freeIs(t, a, nil)
		}
		b.freeIs(t, n, nil)
	}
}

// P7.3: in a store with no shape just those are freed that nothing has, and so all, level by level.
func TestFreeAll(t *testing.T) {
	for seed := range int64(6) {
		b := filled(t, seed, 80, 60)
		for rounds := 0; b.m.live > 0; rounds++ {
			freed := false
			for _, n := range b.m.numbers() {
				freed = b.free(t, n) == nil || freed
			}
			b.look(t)
			if !freed || rounds > 60 {
				t.Fatal("nothing more is freed")
			}
		}
		b.fill(t, rand.New(rand.NewSource(seed)), 80)
	}
}

// P7.4, P7.5, P1: at what isn't 0 to 6 nothing changes.
func TestSwapAtNone(t *testing.T) {
	for _, b := range stores(t) {
		for _, l := range append([]int{-1, 7, 8, 9, 64, 256, 262, 1 << 8}, edges...) {
			b.swapIs(t, l, api.ErrArg)
		}
		for l := range 7 {
			b.swap(t, l)
		}
	}
}

// P7.4: where there are no nodes of either level, of one of them, or none at all, the order changes alone.
func TestSwapWithoutNodes(t *testing.T) {
	for _, there := range [][]int{nil, {3}, {4}, {0}, {7}, {0, 1, 2}, {5, 6, 7}, {0, 1, 2, 5, 6, 7}} {
		b := newBoth(t, 20)
		below := 1
		for _, v := range slices.Backward(there) {
			below = b.mk(t, v, 0, below)
		}
		was := maps.Clone(b.m.nodes)
		b.swapIs(t, 3, nil)
		if b.s.Order() != [8]int{0, 1, 2, 4, 3, 5, 6, 7} || !maps.Equal(b.m.nodes, was) {
			t.Fatalf("of nodes of %v: %v in the order %v", there, b.m.nodes, b.s.Order())
		}
	}
}

// P7.4: nodes of both variables, none with one of the other, though such is below what is below them: nothing changes but the order, be there room or none.
func TestSwapWhereNothingChanges(t *testing.T) {
	for _, room := range []int{0, 1, 5} {
		b := newBoth(t, 7+room)
		last := b.mk(t, 6, 0, 1)
		five := b.mk(t, 5, last, 1)
		b.mk(t, 3, five, 0)
		b.mk(t, 3, last, five)
		four := b.mk(t, 4, five, last)
		b.mk(t, 2, four, 1)
		b.mk(t, 3, 0, 1)
		was := maps.Clone(b.m.nodes)
		b.swapIs(t, 3, nil)
		if b.s.Order() != [8]int{0, 1, 2, 4, 3, 5, 6, 7} || !maps.Equal(b.m.nodes, was) {
			t.Fatalf("%v in the order %v", b.m.nodes, b.s.Order())
		}
		b.mkIs(t, 3, four, 1, 0, api.ErrArg)
		b.swapIs(t, 3, nil)
	}
}

// nodes are numbers, and the nodes that they are to be.
type nodes map[int]api.Node

// is holds some nodes, and how many there are, against what is known of them.
func (b both) is(t *testing.T, live int, want nodes) {
	t.Helper()
	for n, is := range want {
		if got, ok := b.s.Node(n); got != is || !ok {
			t.Errorf("%d is %v, %v, not %v", n, got, ok, is)
		}
	}
	if b.s.Live() != live {
		t.Errorf("there are %d nodes, not %d", b.s.Live(), live)
	}
}

// P7.4: what Mk is asked is there already, is a constant, or is one that is below: nothing is made.
func TestSwapOfWhatIsThere(t *testing.T) {
	b := newBoth(t, 20)
	y := b.mk(t, 1, 0, 1)
	x := b.mk(t, 0, 0, 1)
	not := b.mk(t, 0, 1, 0)
	and := b.mk(t, 0, 0, y)
	or := b.mk(t, 0, y, 1)
	no := b.mk(t, 1, 1, 0)
	xor := b.mk(t, 0, y, no)
	b.swapIs(t, 0, nil)
	b.is(t, 7, nodes{
		y:   {Var: 1, Lo: 0, Hi: 1},
		x:   {Var: 0, Lo: 0, Hi: 1},
		not: {Var: 0, Lo: 1, Hi: 0},
		and: {Var: 1, Lo: 0, Hi: x},
		or:  {Var: 1, Lo: x, Hi: 1},
		no:  {Var: 1, Lo: 1, Hi: 0},
		xor: {Var: 1, Lo: x, Hi: not},
	})
	b.mkIs(t, 1, 0, x, and, nil)
	b.mkIs(t, 0, 0, y, 0, api.ErrArg)
}

// P7.4: what Mk is asked isn't there: by rising numbers of what changes each makes its Lo, then its Hi, at numbers as the arena gives them.
func TestSwapMakes(t *testing.T) {
	b := newBoth(t, 40)
	two, three, four, five := b.mk(t, 2, 0, 1), b.mk(t, 3, 0, 1), b.mk(t, 4, 0, 1), b.mk(t, 5, 0, 1)
	gone := b.mk(t, 7, 0, 1)
	early := b.mk(t, 6, 0, 1)
	y := b.mk(t, 1, two, three)
	z := b.mk(t, 1, three, two)
	b.freeIs(t, early, nil)
	b.freeIs(t, gone, nil)
	late := b.mk(t, 0, four, y)
	first := b.mk(t, 0, z, five)
	last := b.mk(t, 0, y, z)
	if late != gone || first != early {
		t.Fatal("the numbers aren't as they are to be")
	}
	b.swapIs(t, 0, nil)
	b.is(t, 15, nodes{
		late:     {Var: 1, Lo: last + 1, Hi: last + 2},
		last + 1: {Var: 0, Lo: four, Hi: two},
		last + 2: {Var: 0, Lo: four, Hi: three},
		first:    {Var: 1, Lo: last + 3, Hi: last + 4},
		last + 3: {Var: 0, Lo: three, Hi: five},
		last + 4: {Var: 0, Lo: two, Hi: five},
		last:     {Var: 1, Lo: last + 5, Hi: last + 6},
		last + 5: {Var: 0, Lo: two, Hi: three},
		last + 6: {Var: 0, Lo: three, Hi: two},
		y:        {Var: 1, Lo: two, Hi: three},
	})
}

// P7.4: what is made has a number that was given back, the last one first.
func TestSwapMakesAtNumbersGivenBack(t *testing.T) {
	b := newBoth(t, 20)
	for v := 2; v < 8; v++ {
		b.mk(t, v, 0, 1)
	}
	y := b.mk(t, 1, 2, 3)
	n := b.mk(t, 0, 4, y)
	b.freeIs(t, 6, nil)
	b.freeIs(t, 5, nil)
	b.freeIs(t, 7, nil)
	b.swapIs(t, 0, nil)
	b.is(t, 7, nodes{n: {Var: 1, Lo: 7, Hi: 5}, 7: {Var: 0, Lo: 4, Hi: 2}, 5: {Var: 0, Lo: 4, Hi: 3}})
	b.mkIs(t, 7, 1, 0, 6, nil)
}

// P7.4: two that change make the same node, as Lo of both, as Hi of both, as Hi of one and Lo of the other: it is made once.
func TestSwapMakesOneTwice(t *testing.T) {
	for _, k := range [][4]int{{0, 1, 0, 2}, {1, 0, 2, 0}, {1, 0, 0, 2}, {0, 1, 2, 0}} {
		b := newBoth(t, 20)
		of := []int{b.mk(t, 2, 0, 1), b.mk(t, 3, 0, 1), b.mk(t, 4, 0, 1)}
		last := b.mk(t, 5, 0, 1)
		y := b.mk(t, 1, of[k[0]], of[k[1]])
		z := b.mk(t, 1, of[k[2]], of[k[3]])
		b.mk(t, 0, last, y)
		b.mk(t, 0, last, z)
		b.swapIs(t, 0, nil)
		b.is(t, 11, nil)
		if n := b.mk(t, 0, last, of[0]); n < 10 || n > 12 || b.s.Live() != 11 {
			t.Errorf("of %v: what both have is %d", k, n)
		}
	}
}

// P7.4: of one that changes one of both may be no node of x, but what is below it, or a constant.
func TestSwapMakesNoneWhereBothAreOne(t *testing.T) {
	b := newBoth(t, 20)
	two := b.mk(t, 2, 0, 1)
	y := b.mk(t, 1, two, 0)
	n := b.mk(t, 0, two, y)
	m := b.mk(t, 0, y, 0)
	b.swapIs(t, 0, nil)
	b.is(t, 5, nodes{n: {Var: 1, Lo: two, Hi: 6}, 6: {Var: 0, Lo: two, Hi: 0}, m: {Var: 1, Lo: 6, Hi: 0}})
}

// P7.4: nodes of x that don't change, beside some that do, stay as they are, and so do all of y and of other variables.
func TestSwapLeavesOthers(t *testing.T) {
	for seed := range int64(20) {
		b := filled(t, 100+seed, 600, 60)
		for l := range 7 {
			x := b.m.order[l]
			was := maps.Clone(b.m.nodes)
			changing := b.m.changing(l)
			b.swapIs(t, l, nil)
			for n, is := range was {
				now, _ := b.s.Node(n)
				if slices.Contains(changing, n) != (now != is) || now != is && is.Var != x {
					t.Fatalf("%d was %v, is %v", n, is, now)
				}
			}
		}
	}
}

// manyChanging is a store with k nodes (132 at most) that change by Swap(0), each of which makes two, and with just so much room.
func manyChanging(t *testing.T, k, room int) both {
	t.Helper()
	b := newBoth(t, 11+2*k+room)
	for v := 7; v > 2; v-- {
		b.mk(t, v, 0, 1)
		b.mk(t, v, 1, 0)
	}
	y := b.mk(t, 1, 2, 3)
	for i := range k {
		lo, hi := i/11, i%11
		if hi >= lo {
			hi++
		}
		b.mk(t, 0, b.mk(t, 2, lo, hi), y)
	}
	b.look(t)
	if b.s.Room() != room || len(b.m.changing(0)) != k {
		t.Fatalf("%d are to change, with room for %d", len(b.m.changing(0)), b.s.Room())
	}
	return b
}

// P7.4, P7.5: what changes is just half of the room, or less, or one more; then nothing changes, and behind it goes on as it did.
func TestSwapAndRoom(t *testing.T) {
	for _, k := range []int{1, 2, 3, 10, 100, 132} {
		for _, room := range []int{2 * k, 2*k + 1, 2*k + 2, 3 * k, 4 * k} {
			b := manyChanging(t, k, room)
			b.swapIs(t, 0, nil)
			if b.s.Room() != room-2*k || b.s.Order() != [8]int{1, 0, 2, 3, 4, 5, 6, 7} {
				t.Fatalf("%d changed where there was room for %d, now for %d, in the order %v", k, room, b.s.Room(), b.s.Order())
			}
		}
		for _, room := range []int{2*k - 1, 2*k - 2, k, k - 1, 0} {
			b := manyChanging(t, k, room)
			for range 2 {
				b.swapIs(t, 0, api.ErrFull)
				if b.s.Room() != room || b.s.Order() != plain {
					t.Fatalf("%d don't change where there is room for %d, and now for %d, in the order %v", k, room, b.s.Room(), b.s.Order())
				}
			}
			b.swap(t, 1)
			b.swap(t, 0)
			b.fill(t, rand.New(rand.NewSource(7)), min(b.m.most, b.m.live+3))
		}
	}
}

// P7.4, P7.5: it is what changes that is held against the room, not what would be made; room that was freed counts, too.
func TestSwapAsksForRoomOfNone(t *testing.T) {
	for _, room := range []int{0, 1} {
		b := newBoth(t, 3+room)
		y := b.mk(t, 1, 0, 1)
		b.mk(t, 0, 0, 1)
		b.mk(t, 0, 0, y)
		b.swapIs(t, 0, api.ErrFull)
		b.mkIs(t, 0, 0, y, 4, nil)
		b.swapIs(t, 6, nil)
	}
	b := newBoth(t, 5)
	y := b.mk(t, 1, 0, 1)
	n := b.mk(t, 0, 0, y)
	m := b.mk(t, 0, 1, y)
	b.mk(t, 7, 0, 1)
	b.swapIs(t, 0, api.ErrFull)
	b.freeIs(t, m, nil)
	b.swapIs(t, 0, nil)
	b.is(t, 4, nodes{n: {Var: 1, Lo: 0, Hi: m}, m: {Var: 0, Lo: 0, Hi: 1}})
}

// P7.3, P7.4: behind Swap what isn't had any more can be freed, and what was made, or is had now, can't.
func TestFreeBehindSwap(t *testing.T) {
	b := newBoth(t, 20)
	two, three := b.mk(t, 2, 0, 1), b.mk(t, 3, 0, 1)
	y := b.mk(t, 1, two, three)
	x := b.mk(t, 0, 0, two)
	n := b.mk(t, 0, 0, y)
	b.freeIs(t, y, api.ErrArg)
	b.swapIs(t, 0, nil)
	b.is(t, 6, nodes{n: {Var: 1, Lo: x, Hi: 7}, 7: {Var: 0, Lo: 0, Hi: three}})
	for _, had := range []int{x, 7, two, three} {
		b.freeIs(t, had, api.ErrArg)
	}
	b.freeIs(t, y, nil)
	b.freeIs(t, n, nil)
	b.freeIs(t, 7, nil)
	b.freeIs(t, three, nil)
	b.freeIs(t, two, api.ErrArg)
	b.freeIs(t, x, nil)
	b.freeIs(t, two, nil)
}

// P7.4: behind Swap a node is found as it is now, as it was it is made anew where its variables may stand so.
func TestMkBehindSwap(t *testing.T) {
	b := newBoth(t, 20)
	y := b.mk(t, 1, 0, 1)
	n := b.mk(t, 0, 0, y)
	b.swapIs(t, 0, nil)
	x := b.mk(t, 0, 0, 1)
	b.mkIs(t, 1, 0, x, n, nil)
	b.mkIs(t, 0, 0, y, 0, api.ErrArg)
	b.freeIs(t, n, nil)
	b.mkIs(t, 1, 0, x, n, nil)
	b.swapIs(t, 0, nil)
	b.mkIs(t, 0, 0, y, n, nil)
	b.mkIs(t, 1, 0, x, 0, api.ErrArg)
}

// P7.4, P7.6: exchanged twice each node is as it was, whatever the order was; beside them there is what was made.
func TestSwapTwice(t *testing.T) {
	for seed := range int64(10) {
		b := filled(t, 200+seed, 2000, 60)
		for l := range 7 {
			was, order := maps.Clone(b.m.nodes), b.s.Order()
			b.swapIs(t, l, nil)
			b.swapIs(t, l, nil)
			for n, is := range was {
				if now, ok := b.s.Node(n); now != is || !ok {
					t.Fatalf("%d was %v, is %v, %v", n, is, now, ok)
				}
			}
			if b.s.Order() != order {
				t.Fatalf("the order was %v, is %v", order, b.s.Order())
			}
		}
	}
}

// P7.4, P7.6: each variable goes down to the last level and up to the first, by swaps alone, in stores with no shape.
func TestSwapMovesEach(t *testing.T) {
	for seed := range int64(3) {
		b := filled(t, 300+seed, 20000, 40)
		for v := range 8 {
			for l := b.m.level(v); l < 7; l++ {
				b.swapIs(t, l, nil)
			}
			for l := 7; l > 0; l-- {
				b.swapIs(t, l-1, nil)
			}
			if b.s.Order()[0] != v {
				t.Fatalf("%d is to be at the first level: %v", v, b.s.Order())
			}
		}
	}
}

// ask is one call of a store, to be asked of both.
type ask func(t *testing.T, b both)

// asks are calls of two variables and few numbers, right ones and wrong ones.
func asks() []ask {
	var l []ask
	for _, v := range []int{-1, 0, 7} {
		l = append(l, func(t *testing.T, b both) { b.swap(t, v) })
	}
	for n := -1; n < 6; n++ {
		l = append(l, func(t *testing.T, b both) { b.free(t, n) })
		for m := -1; m < n; m++ {
			l = append(l, func(t *testing.T, b both) { b.mk(t, 0, m, n) })
			l = append(l, func(t *testing.T, b both) { b.mk(t, 1, n%2, m) })
		}
	}
	return l
}

// P7.1 to P7.6: every way of few calls, each of which changes something but for the last, on stores of little room.
func TestAllShortWays(t *testing.T) {
	all := asks()
	for most := range 5 {
		var goOn func(way []ask)
		goOn = func(way []ask) {
			for _, last := range all {
				b := newBoth(t, most)
				for _, a := range way {
					a(t, b)
				}
				was := *b.m
				last(t, b)
				b.look(t)
				if len(way) < 4 && (was.live != b.m.live || was.order != b.m.order) {
					goOn(append(slices.Clone(way), last))
				}
			}
		}
		goOn(nil)
	}
}

// P7.1 to P7.6: long ways with no shape, in stores of little and of much room, right and wrong calls.
func TestLongWays(t *testing.T) {
	for seed := range int64(30) {
		r := rand.New(rand.NewSource(seed))
		b := newBoth(t, []int{3, 8, 20, 50, 120}[seed%5])
		for range 400 {
			step(t, r, b)
		}
	}
}

// step asks anything, oftener what is right, and looks at all then.
func step(t *testing.T, r *rand.Rand, b both) {
	t.Helper()
	some := func() int { return r.Intn(b.m.ever+6) - 2 }
	switch r.Intn(12) {
	case 0, 1, 2, 3:
		v := r.Intn(8)
		l := b.below(v)
		b.mk(t, v, l[r.Intn(len(l))], l[r.Intn(len(l))])
	case 4, 5:
		b.mk(t, r.Intn(10)-1, some(), some())
	case 6, 7, 8:
		b.free(t, some())
	case 9, 10:
		b.swap(t, r.Intn(7))
	default:
		b.swap(t, edges[r.Intn(len(edges))])
	}
	b.look(t)
}

// P7.1 to P7.4: a store of the most nodes there may be, all there, has the numbers 2 to 20001, and goes on.
func TestMostNodes(t *testing.T) {
	b := newBoth(t, api.MaxNodes)
	for want := 2; want < api.MaxNodes+2; {
		v, all := 7, []int{0, 1}
		for ; len(all) < 256; v-- {
			all = layAll(t, b, v, all, &want)
		}
		layAll(t, b, v, all, &want)
	}
	b.look(t)
	b.mkIs(t, 0, 0, 1, 0, api.ErrFull)
	b.mkIs(t, 0, 0, 20001, 0, api.ErrFull)
	b.mkIs(t, 0, 0, 20002, 0, api.ErrArg)
	b.mkIs(t, 0, 20001, 20001, 20001, nil)
	b.mkIs(t, 7, 1, 0, 3, nil)
	b.swapIs(t, 4, api.ErrFull)
	b.swapIs(t, 3, nil)
	b.freeIs(t, 20001, nil)
	b.freeIs(t, 2, api.ErrArg)
	b.mkIs(t, 0, 1, 20000, 20001, nil)
}

// layAll makes all nodes of v above those of a list, while there is room, and tells these and the list.
func layAll(t *testing.T, b both, v int, l []int, want *int) []int {
	t.Helper()
	all := slices.Clone(l)
	for _, lo := range l {
		for _, hi := range l {
			if lo == hi || b.s.Room() == 0 {
				continue
			}
			if n := b.mk(t, v, lo, hi); n != *want {
				t.Fatalf("Mk(%d, %d, %d) tells %d, not %d", v, lo, hi, n, *want)
			}
			all = append(all, *want)
			*want++
		}
	}
	return all
}

// P7.4, P7.6: thousands of nodes change at once, and back.
func TestSwapOfMany(t *testing.T) {
	b := newBoth(t, api.MaxNodes)
	want, all := 2, []int{0, 1}
	for v := 7; v > 4; v-- {
		all = layAll(t, b, v, all, &want)
	}
	r := rand.New(rand.NewSource(8))
	for b.s.Live() < 6000 {
		b.mk(t, 4, all[r.Intn(len(all))], all[r.Intn(len(all))])
	}
	for range 2 {
		if many := len(b.m.changing(4)); many < 4000 {
			t.Fatalf("%d change", many)
		}
		b.swapIs(t, 4, nil)
		b.swapIs(t, 4, nil)
	}
	b.swapIs(t, 4, nil)
	b.swapIs(t, 5, nil)
	b.swapIs(t, 3, nil)
}

// R2: what was handed out stays as it is by later calls, and the store does by a change of it; two lists share nothing.
func TestWhatIsHandedOut(t *testing.T) {
	b := filled(t, 9, 300, 40)
	all, other, order := b.s.All(), b.s.All(), b.s.Order()
	is, _ := b.s.Node(all[0])
	keptAll, keptOrder, keptNode := slices.Clone(all), order, is
	for _, l := range []int{0, 1, 2, 3, 4, 5, 6, 0} {
		b.swapIs(t, l, nil)
	}
	for n := range 400 {
		b.free(t, n)
	}
	b.fill(t, rand.New(rand.NewSource(9)), 250)
	if !slices.Equal(all, keptAll) || order != keptOrder || is != keptNode {
		t.Fatal("what was handed out is changed by later calls")
	}
	now := b.s.All()
	for _, l := range [][]int{all, now} {
		for i := range l {
			l[i] = -l[i] - 7
		}
		_ = append(l[:len(l):cap(l)], 5)
	}
	order[0], order[7], is.Lo = 9, 9, 9
	b.look(t)
	if !slices.Equal(other, keptAll) {
		t.Fatal("two lists are one")
	}
	b.fill(t, rand.New(rand.NewSource(10)), 300)
}

// R2: what one store has another hasn't, nor does its order change.
func TestStoresAreApart(t *testing.T) {
	l := []both{newBoth(t, 12), newBoth(t, 12), newBoth(t, 30)}
	r := rand.New(rand.NewSource(11))
	for range 500 {
		step(t, r, l[r.Intn(len(l))])
		for _, b := range l {
			b.look(t)
		}
	}
}

// P1, P7.1 to P7.6: no argument makes a call panic, and all is as the chapter's words tell it.
func FuzzAllArguments(f *testing.F) {
	for i, n := range append([]int{0, 1, 2, 3, 6, 7}, edges...) {
		f.Add(i%12, n, edges[(i+5)%len(edges)], []byte{1, 2, 90, 30, 60, 200, 150, 3, 4, 77, 6, 9, 10, 13, 201, 8, 5})
	}
	f.Fuzz(func(t *testing.T, most, n, m int, ways []byte) {
		if (New(most) != nil) != (0 <= most && most <= api.MaxNodes) {
			t.Fatalf("New(%d)", most)
		}
		b := newBoth(t, most&15)
		for _, way := range ways[:min(len(ways), 300)] {
			k := int(way >> 2)
			switch way & 3 {
			case 0:
				l := b.below(k & 7)
				b.mk(t, k&7, l[(k>>3+n&7)%len(l)], l[(k+m&7)%len(l)])
			case 1:
				b.mk(t, n, k, m)
				b.mk(t, k&7, n, m)
				b.mk(t, k&7, m, k>>3)
			case 2:
				b.free(t, n)
				b.free(t, k)
			default:
				b.swap(t, k&7)
				b.swap(t, m)
			}
			b.look(t)
		}
	})
}

package uniq

import (
	"maps"
	"math"
	"math/rand"
	"testing"
)

// edges are numbers at which a key may go wrong: around none, those that wrap onto each other in fewer bits, the least and the greatest.
var edges = []int{0, 1, -1, 2, -2, 7, 8, 255, 256, 1<<31 - 1, 1 << 31, -1 << 31, 1<<32 - 1, 1 << 32, 1<<32 + 1, -1 << 32, 1 << 62, -1 << 62, math.MaxInt, math.MaxInt - 1, math.MinInt, math.MinInt + 1}

// model is the chapter's words: what stands for which pair, and how many slots are to be told.
type model struct {
	stands map[[2]int]int
	slots  int
}

func (m *model) put(lo, hi, n int) bool {
	if _, ok := m.stands[[2]int{lo, hi}]; ok {
		return false
	}
	m.stands[[2]int{lo, hi}] = n
	if 2*len(m.stands) > m.slots {
		m.slots *= 2
	}
	return true
}

func (m *model) drop(lo, hi int) bool {
	_, ok := m.stands[[2]int{lo, hi}]
	delete(m.stands, [2]int{lo, hi})
	return ok
}

// both is a table and its model, to be asked the same.
type both struct {
	t *Table
	m *model
}

func newBoth(t *testing.T) both {
	t.Helper()
	u := New()
	if u == nil {
		t.Fatal("there is no table")
	}
	return both{u, &model{map[[2]int]int{}, 8}}
}

func (b both) put(t *testing.T, lo, hi, n int) {
	t.Helper()
	if got, want := b.t.Put(lo, hi, n), b.m.put(lo, hi, n); got != want {
		t.Fatalf("Put(%d, %d, %d) tells %v", lo, hi, n, got)
	}
	b.count(t)
}

func (b both) drop(t *testing.T, lo, hi int) {
	t.Helper()
	if got, want := b.t.Drop(lo, hi), b.m.drop(lo, hi); got != want {
		t.Fatalf("Drop(%d, %d) tells %v", lo, hi, got)
	}
	b.count(t)
}

func (b both) get(t *testing.T, lo, hi int) {
	t.Helper()
	n, ok := b.t.Get(lo, hi)
	if want, stands := b.m.stands[[2]int{lo, hi}]; n != want || ok != stands {
		t.Fatalf("Get(%d, %d) tells %d, %v, not %d, %v", lo, hi, n, ok, want, stands)
	}
}

// count holds Many and Slots against the model, and against each other (P5.3).
func (b both) count(t *testing.T) {
	t.Helper()
	if b.t.Many() != len(b.m.stands) || b.t.Slots() != b.m.slots {
		t.Fatalf("%d in %d slots are told, not %d in %d", b.t.Many(), b.t.Slots(), len(b.m.stands), b.m.slots)
	}
	if 2*b.t.Many() > b.t.Slots() {
		t.Fatalf("%d are above half of %d slots", b.t.Many(), b.t.Slots())
	}
}

// all gets every pair of which something stands, and those that were handed in beside.
func (b both) all(t *testing.T, beside [][2]int) {
	t.Helper()
	for k := range b.m.stands {
		b.get(t, k[0], k[1])
	}
	for _, k := range beside {
		b.get(t, k[0], k[1])
	}
	b.count(t)
}

// P5.1, P5.2: nothing stands for anything at first.
func TestNew(t *testing.T) {
	b := newBoth(t)
	b.count(t)
	for _, lo := range edges {
		for _, hi := range edges {
			b.get(t, lo, hi)
			b.drop(t, lo, hi)
		}
	}
}

// P5.1: the chapter's example.
func TestExample(t *testing.T) {
	u := New()
	if !u.Put(1, 2, 9) {
		t.Error("Put(1, 2, 9) tells false")
	}
	if n, ok := u.Get(1, 2); n != 9 || !ok {
		t.Errorf("Get(1, 2) tells %d, %v", n, ok)
	}
	if n, ok := u.Get(2, 1); n != 0 || ok {
		t.Errorf("Get(2, 1) tells %d, %v", n, ok)
	}
}

// P5.1, P1: pairs of all edges are told apart from each other, and any number may stand for one.
func TestAnyNumbers(t *testing.T) {
	b := newBoth(t)
	for i, lo := range edges {
		for j, hi := range edges {
			b.get(t, lo, hi)
			b.put(t, lo, hi, edges[(3*i+5*j)%len(edges)])
			b.get(t, lo, hi)
		}
	}
	b.all(t, [][2]int{{3, 0}, {0, 3}, {1 << 33, 1}, {math.MinInt + 2, 0}})
	for i, lo := range edges {
		for j, hi := range edges {
			if (i+j)%2 == 0 {
				b.drop(t, hi, lo)
				b.get(t, hi, lo)
			}
		}
	}
	b.all(t, allPairs(edges))
}

func allPairs(l []int) [][2]int {
	var pairs [][2]int
	for _, lo := range l {
		for _, hi := range l {
			pairs = append(pairs, [2]int{lo, hi})
		}
	}
	return pairs
}

// P5.1: each number alone may stand for a pair; 0, too, is something.
func TestWhatStands(t *testing.T) {
	for _, n := range edges {
		u := New()
		if !u.Put(5, 6, n) || u.Many() != 1 {
			t.Fatalf("%d can't be put", n)
		}
		if got, ok := u.Get(5, 6); got != n || !ok {
			t.Fatalf("%d was put, Get tells %d, %v", n, got, ok)
		}
		if u.Put(5, 6, n) || u.Put(5, 6, n+1) || u.Put(5, 6, 0) {
			t.Fatalf("%d stands, and something is put", n)
		}
		if got, ok := u.Get(5, 6); got != n || !ok {
			t.Fatalf("%d was put, Get tells %d, %v behind Puts that are false", n, got, ok)
		}
		if !u.Drop(5, 6) || u.Drop(5, 6) || u.Many() != 0 {
			t.Fatalf("%d can't be dropped, or twice", n)
		}
		if got, ok := u.Get(5, 6); got != 0 || ok {
			t.Fatalf("%d was dropped, Get tells %d, %v", n, got, ok)
		}
	}
}

// P5.1: a Put where something stands changes nothing, be the table of whatever size; behind a Drop it does.
func TestPutAgain(t *testing.T) {
	b := newBoth(t)
	for i := range 70 {
		b.put(t, i, 2*i, i)
		for j := range i + 1 {
			b.put(t, j, 2*j, 1000+i)
		}
		b.all(t, nil)
	}
	for i := range 70 {
		b.drop(t, i, 2*i)
		b.put(t, i, 2*i, 1000+i)
		b.put(t, i, 2*i, i)
		b.all(t, nil)
	}
}

// P5.1: a Drop and a Get where nothing stands change nothing.
func TestWhereNothingStands(t *testing.T) {
	b := newBoth(t)
	for i := range 40 {
		for j := i; j < 44; j++ {
			b.get(t, j, j)
			b.drop(t, j, j)
			b.drop(t, j, j-1)
			b.drop(t, j-1, j)
		}
		b.all(t, nil)
		b.put(t, i, i, -i)
	}
	for i := range 40 {
		b.drop(t, i, i)
		for j := range i + 1 {
			b.drop(t, j, j)
			b.get(t, j, j)
		}
		b.all(t, nil)
	}
}

// P5.2: slots double just by the Put that gets Many above half of them.
func TestSlotsDouble(t *testing.T) {
	u := New()
	for slots := 8; slots <= 1<<16; slots *= 2 {
		for u.Many() < slots/2 {
			if u.Slots() != slots {
				t.Fatalf("%d pairs: %d slots, not %d", u.Many(), u.Slots(), slots)
			}
			u.Put(u.Many(), -1, 0)
		}
		if u.Slots() != slots || u.Many() != slots/2 {
			t.Fatalf("just half, %d pairs: %d slots, not %d", u.Many(), u.Slots(), slots)
		}
		u.Put(0, -1, 5)
		u.Get(slots, 3)
		u.Drop(slots, 3)
		if u.Slots() != slots || u.Many() != slots/2 {
			t.Fatalf("just half, and nothing happens: %d slots, not %d", u.Slots(), slots)
		}
		u.Put(u.Many(), -1, 0)
		if u.Slots() != 2*slots || u.Many() != slots/2+1 {
			t.Fatalf("above half, %d pairs: %d slots, not %d", u.Many(), u.Slots(), 2*slots)
		}
	}
}

// P5.2: by Puts and Drops that keep at half or below slots stay, however many there are of them.
func TestSlotsStayAtHalf(t *testing.T) {
	for _, half := range []int{4, 8, 64, 512} {
		b := newBoth(t)
		for i := range half {
			b.put(t, i, 0, i)
		}
		for i := range 40 * half {
			b.drop(t, i, 0)
			b.put(t, i+half, 0, i+half)
			if b.t.Slots() != 2*half {
				t.Fatalf("%d pairs, put and dropped: %d slots", half, b.t.Slots())
			}
		}
		b.all(t, [][2]int{{0, 0}, {half, 0}, {40*half - 1, 0}, {41 * half, 0}})
		b.put(t, -1, 0, 3)
		if b.t.Slots() != 4*half {
			t.Fatalf("above half of %d: %d slots", 2*half, b.t.Slots())
		}
	}
}

// P5.2: slots don't get fewer by Drops, and from none it takes as many Puts as the slots ask to get more.
func TestSlotsStayByDrops(t *testing.T) {
	b := newBoth(t)
	for round := range 5 {
		many := 9 << round
		for i := range many {
			b.put(t, i, round, i)
		}
		slots := b.t.Slots()
		if slots != 32<<round {
			t.Fatalf("%d pairs: %d slots", many, slots)
		}
		for i := range many {
			b.drop(t, i, round)
			b.drop(t, i, round)
			if b.t.Slots() != slots {
				t.Fatalf("%d slots behind Drops, not %d", b.t.Slots(), slots)
			}
		}
		b.all(t, nil)
	}
}

// crowd tells pairs whose home, in a new table, is the one that is asked for: they lie in each other's way.
func crowd(home, many int) [][2]int {
	u := New()
	var l [][2]int
	for i := 0; len(l) < many; i++ {
		if k := (pair{i / 50, i % 50}); u.home(k) == home {
			l = append(l, [2]int{k.lo, k.hi})
		}
	}
	return l
}

// walkAll makes every way of so many Puts and Drops of some pairs, from a new table each, and gets all pairs behind each step.
func walkAll(t *testing.T, pairs [][2]int, steps int) {
	t.Helper()
	kinds := 2 * len(pairs)
	ways := 1
	for range steps {
		ways *= kinds
	}
	for way := range ways {
		b := newBoth(t)
		for step := range steps {
			k := pairs[way%kinds/2]
			if way%2 == 0 {
				b.put(t, k[0], k[1], step+1)
			} else {
				b.drop(t, k[0], k[1])
			}
			b.all(t, pairs)
			way /= kinds
		}
	}
}

// P5.1, P5.3: pairs of one home, of homes beside each other, and of the last ones, behind which it goes on at the first.
func TestAllWaysInCrowds(t *testing.T) {
	for home := range 8 {
		near := (home + 1) % 8
		walkAll(t, crowd(home, 3), 5)
		walkAll(t, append(crowd(home, 2), crowd(near, 1)...), 5)
		walkAll(t, append(crowd(home, 1), crowd(near, 2)...), 5)
	}
}

// orders tells every order of so many numbers.
func orders(many int) [][]int {
	if many == 0 {
		return [][]int{nil}
	}
	var l [][]int
	for _, o := range orders(many - 1) {
		for at := range many {
			next := append(append(append([]int{}, o[:at]...), many-1), o[at:]...)
			l = append(l, next)
		}
	}
	return l
}

// P5.3: four pairs with homes near each other, in all ways that these may lie, dropped in each order.
func TestAllOrdersInCrowds(t *testing.T) {
	crowds := make([][][2]int, 8)
	for home := range crowds {
		crowds[home] = crowd(home, 4)
	}
	for homes := range 8 * 4 * 4 * 4 {
		first := homes % 8
		pairs := [][2]int{crowds[first][0], crowds[(first+homes/8%4)%8][1], crowds[(first+homes/32%4)%8][2], crowds[(first+homes/128)%8][3]}
		for _, dropped := range orders(4) {
			b := newBoth(t)
			for i, k := range pairs {
				b.put(t, k[0], k[1], i)
			}
			b.all(t, nil)
			for _, i := range dropped {
				b.drop(t, pairs[i][0], pairs[i][1])
				b.all(t, pairs)
			}
		}
	}
}

// P5.3: what was put is got, with others put and dropped ahead of it and behind it, over several doublings.
func TestAheadAndBehind(t *testing.T) {
	for _, others := range []int{1, 3, 4, 5, 50, 3000} {
		for first := range 2 {
			b := newBoth(t)
			for i := range first * others {
				b.put(t, i, -i, i)
			}
			b.put(t, math.MinInt, math.MaxInt, 77)
			for i := first * others; i < 2*others; i++ {
				b.put(t, i, -i, i)
				b.get(t, math.MinInt, math.MaxInt)
			}
			for i := range 2 * others {
				b.drop(t, i, -i)
				b.get(t, math.MinInt, math.MaxInt)
			}
			if n, ok := b.t.Get(math.MinInt, math.MaxInt); n != 77 || !ok || b.t.Many() != 1 {
				t.Fatalf("%d others put and dropped: %d, %v is got, %d stand", 2*others, n, ok, b.t.Many())
			}
			b.drop(t, math.MinInt, math.MaxInt)
			b.all(t, nil)
		}
	}
}

// P5.1 to P5.3: long ways of few pairs, which meet each other often, and of many.
func TestLongWays(t *testing.T) {
	r := rand.New(rand.NewSource(14))
	for _, span := range []int{2, 3, 5, 12, 40} {
		b := newBoth(t)
		for step := range 6000 {
			lo, hi := r.Intn(span)-span/2, r.Intn(span)
			switch grow := step/1000%2 == 0; {
			case r.Intn(4) == 0 == grow:
				b.drop(t, lo, hi)
			default:
				b.put(t, lo, hi, r.Int())
			}
			b.get(t, hi, lo)
			if step%50 == 0 {
				b.all(t, nil)
			}
		}
	}
}

// P5.1 to P5.3: as many pairs as the greatest store has nodes, and more, of all bits.
func TestManyPairs(t *testing.T) {
	r := rand.New(rand.NewSource(15))
	b := newBoth(t)
	for range 50000 {
		b.put(t, int(r.Uint64()), int(r.Uint64()), int(r.Uint64()))
	}
	b.all(t, nil)
	dropped := maps.Clone(b.m.stands)
	for k := range dropped {
		if k[0]&1 == 0 {
			b.drop(t, k[0], k[1])
		}
	}
	for k := range dropped {
		b.get(t, k[0], k[1])
	}
}

// P1: pairs that lie near each other, or differ in high bits alone, or have one number, don't crowd: none is further than some steps from its home.
func TestPairsAreSpread(t *testing.T) {
	shapes := map[string]func(i int) pair{
		"one row":      func(i int) pair { return pair{i, 0} },
		"one column":   func(i int) pair { return pair{0, i} },
		"alike":        func(i int) pair { return pair{i, i} },
		"against":      func(i int) pair { return pair{i, -i} },
		"a square":     func(i int) pair { return pair{i / 256, i % 256} },
		"high bits":    func(i int) pair { return pair{i << 40, 0} },
		"higher bits":  func(i int) pair { return pair{1, i << 47} },
		"both high":    func(i int) pair { return pair{i << 32, i << 32} },
		"neighbours":   func(i int) pair { return pair{i, i + 1} },
		"with a sum":   func(i int) pair { return pair{i, 40000 - i} },
		"many a slice": func(i int) pair { return pair{i * 65536, i * 4096} },
	}
	for name, shape := range shapes {
		u := New()
		for i := range 32768 {
			k := shape(i)
			if !u.Put(k.lo, k.hi, i) {
				t.Fatalf("%s: %v is put twice", name, k)
			}
		}
		for i, p := range u.places {
			if p.full && u.steps(u.home(p.key), i) > 200 {
				t.Fatalf("%s: %v lies %d steps from its home", name, p.key, u.steps(u.home(p.key), i))
			}
		}
	}
}

// P5.1, R2: no table has to do with another.
func TestTablesAreApart(t *testing.T) {
	l := []both{newBoth(t), newBoth(t), newBoth(t)}
	r := rand.New(rand.NewSource(16))
	for range 3000 {
		b := l[r.Intn(len(l))]
		if lo, hi := r.Intn(4), r.Intn(4); r.Intn(3) == 0 {
			b.drop(t, lo, hi)
		} else {
			b.put(t, lo, hi, r.Int())
		}
		for _, b := range l {
			b.get(t, r.Intn(4), r.Intn(4))
			b.count(t)
		}
	}
	if l[0].t == l[1].t {
		t.Error("two tables are one")
	}
}

// P1, P5.1 to P5.3: no argument makes a call panic, and all is as the chapter's words tell it.
func FuzzAllArguments(f *testing.F) {
	for i, lo := range edges {
		f.Add(lo, edges[(i+7)%len(edges)], edges[(i+3)%len(edges)], []byte{0, 3, 6, 9, 12, 15, 1, 4, 0, 2, 7, 10})
	}
	f.Fuzz(func(t *testing.T, lo, hi, n int, ways []byte) {
		b := newBoth(t)
		for _, way := range ways {
			x, y := lo+int(way)/12, hi-int(way)/24
			switch way % 3 {
			case 0:
				b.put(t, x, y, n+int(way))
			case 1:
				b.drop(t, x, y)
			}
			b.get(t, x, y)
			b.get(t, y, x)
		}
		b.all(t, nil)
	})
}

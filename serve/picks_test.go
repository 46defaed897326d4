package serve

import (
	"bower/api"
	"bower/read"
	"bower/sift"
	"bower/store"
	"bower/tab"
	"math"
	"math/rand"
	"reflect"
	"strconv"
	"testing"
)

// deed is something that the outer world picks.
type deed struct {
	name string
	do   func(s *Server)
}

// grows and levels are what Sift and Swap are asked.
var (
	grows  = []int{math.MinInt, -1, 0, 1, 100, math.MaxInt}
	levels = []int{math.MinInt, -1, 0, 3, 6, 7, math.MaxInt}
)

// deeds are all of them.
func deeds() []deed {
	l := []deed{{"none", func(*Server) {}}, {"Collect", (*Server).Collect}, {"Renew", (*Server).Renew}, {"Flush", (*Server).Flush}}
	for _, g := range grows {
		l = append(l, deed{"Sift " + strconv.Itoa(g), func(s *Server) { s.Sift(g) }})
	}
	for _, v := range levels {
		l = append(l, deed{"Swap " + strconv.Itoa(v), func(s *Server) { s.Swap(v) }})
	}
	return l
}

// pick does one of them, more often those that change much.
func pick(s *Server, draw *rand.Rand) {
	switch draw.Intn(10) {
	case 0:
		s.Collect()
	case 1:
		s.Renew()
	case 2:
		s.Sift(grows[draw.Intn(len(grows))])
	case 3:
		s.Sift(draw.Intn(200))
	case 4:
		s.Swap(levels[draw.Intn(len(levels))])
	case 5:
		s.Flush()
	default:
		s.Swap(draw.Intn(7))
	}
}

// requests are those of each Op that tenant 1 of filled may ask, and some that are refused.
func requests(hs [9][]uint64) []api.Req {
	var l []api.Req
	h := hs[1]
	for op := 1; op <= 21; op++ {
		for _, x := range [][3]uint64{{h[5], h[6], h[1]}, {h[6], h[5], h[5]}, {h[2], h[6], h[5]}, {h[6], h[6], h[6]}, {h[0], h[6], h[6]}, {h[4], hs[3][2], 0}} {
			l = append(l, api.Req{Op: op, Tenant: 1, A: x[0], B: x[1], C: x[2], N: int(x[0]>>48) & 7, Bit: op & 1})
		}
	}
	return append(l, api.Req{Op: api.Create, Tenant: 6, N: 20}, api.Req{Op: api.Status, Tenant: 7}, api.Req{Op: api.Teardown, Tenant: 3})
}

// P19.2, T1, T6: each ahead of each kind of request; no answer changes, as the model knows nothing of them.
func TestEachPickAheadOfEachRequest(t *testing.T) {
	_, hs := filled(t, 300)
	for _, d := range deeds() {
		for _, r := range requests(hs) {
			b, _ := filled(t, 300)
			d.do(b.s)
			b.watch(laid(r))
			for tenant, l := range hs {
				for _, h := range l[:len(l)/2] {
					b.do(api.Req{Op: api.Count, Tenant: tenant, A: h})
				}
			}
		}
	}
}

// P19.2: what may not be changes nothing.
func TestPicksThatMayNotBe(t *testing.T) {
	b, _ := filled(t, 300)
	b.s.Swap(3)
	b.s.Swap(0)
	kept := b.s.Look()
	for _, g := range []int{math.MinInt, math.MinInt + 1, -101, -100, -2, -1} {
		if b.s.Sift(g); !reflect.DeepEqual(kept, b.look()) {
			t.Error("Sift", g)
		}
	}
	for _, l := range []int{math.MinInt, math.MinInt + 1, -8, -7, -2, -1, 7, 8, 9, 255, 256, math.MaxInt - 1, math.MaxInt} {
		if b.s.Swap(l); !reflect.DeepEqual(kept, b.look()) {
			t.Error("Swap", l)
		}
	}
	if b.s.Flush(); !reflect.DeepEqual(kept, b.look()) {
		t.Error("Flush")
	}
}

// function tells a table as layer 1 has it.
func function(f table) api.Func {
	l := tab.Const(false)
	for x, b := range f {
		if b {
			l[x/64] |= 1 << (x % 64)
		}
	}
	return l
}

// sifted tells the order and the number of nodes that layer 13 comes to, of a store of as much room with the functions that are held.
func (b *both) sifted(order [8]int, grow int) ([8]int, int) {
	b.t.Helper()
	s := store.New(b.most())
	for at, v := range order {
		for from := 7; from > at; from-- {
			if s.Order()[from] == v {
				s.Swap(from - 1)
			}
		}
	}
	var roots []int
	for _, p := range b.m.people {
		for _, f := range p.held() {
			n, err := read.Build(s, function(f))
			if err != nil {
				b.t.Fatal(err)
			}
			roots = append(roots, n)
		}
	}
	if s.Order() != order {
		b.t.Fatal(s.Order(), order)
	}
	if err := sift.All(s, roots, grow); err != nil {
		b.t.Fatal(err)
	}
	return s.Order(), s.Live()
}

// swapped tells whether layer 7 lets two levels change places.
func swapped(l api.Look, level, most int) bool {
	if level < 0 || level > 6 {
		return false
	}
	is, many := nodes(l), 0
	for _, x := range l.Nodes {
		y := l.Order[level+1]
		if x.Var == l.Order[level] && (is[x.Lo].Var == y && x.Lo > 1 || is[x.Hi].Var == y && x.Hi > 1) {
			many++
		}
	}
	return 2*many <= most-len(l.Nums)
}

// check does a pick and holds what can be seen behind it against the chapter's words; it tells whether anything has changed.
func (b *both) check(what, n int) bool {
	b.t.Helper()
	ahead := b.look()
	switch what {
	case 0:
		b.s.Collect()
		if l := b.look(); !alike(l, collected(ahead)) {
			b.t.Fatal("Collect:", l, collected(ahead))
		}
	case 1:
		b.s.Renew()
		if l := b.look(); !alike(l, b.renewed()) {
			b.t.Fatal("Renew:", l, b.renewed())
		}
		charges := 0
		for tenant := 1; tenant <= 8; tenant++ {
			charges += b.do(api.Req{Op: api.Status, Tenant: tenant}).Charge
		}
		if l := b.look(); len(l.Nums) > charges {
			b.t.Fatal("more nodes than all charges:", len(l.Nums), charges)
		}
	case 2:
		b.s.Sift(n)
		if n < 0 {
			break
		}
		order, many := b.sifted(ahead.Order, n)
		if l := b.look(); l.Order != order || len(l.Nums) != many || !alike(l, collected(l)) {
			b.t.Fatal("Sift:", n, l.Order, order, len(l.Nums), many)
		}
	case 3:
		b.s.Swap(n)
		if !swapped(ahead, n, b.most()) {
			break
		}
		want := ahead.Order
		want[n], want[n+1] = want[n+1], want[n]
		l, was := b.look(), reduced(b.t, ahead)
		if l.Order != want || !reflect.DeepEqual(l.Held, ahead.Held) {
			b.t.Fatal("Swap:", n, l.Order, want)
		}
		is := reduced(b.t, l)
		for _, num := range ahead.Nums {
			if is[num] != was[num] {
				b.t.Fatal("Swap has changed a function:", n, num)
			}
		}
	case 4:
		b.s.Flush()
	}
	behind := b.look()
	same := alike(ahead, behind)
	if !same && (what == 2 && n < 0 || what == 3 && !swapped(ahead, n, b.most()) || what == 4) {
		b.t.Fatal("changed by what may not be:", what, n)
	}
	return !same
}

// P19.2, T4, T6: each pick, by itself and in many orders, with what is to be seen behind it.
func TestPicksAsTold(t *testing.T) {
	draw := rand.New(rand.NewSource(3))
	var changed [5]int
	for range 12 {
		b, hs := filled(t, 300)
		for range 40 {
			what := draw.Intn(5)
			n := draw.Intn(9) - 1
			if what == 2 {
				n = []int{-1, 0, 1, 5, 100, math.MaxInt}[draw.Intn(6)]
			}
			if b.check(what, n) {
				changed[what]++
			}
			r := requests(hs)[draw.Intn(6*21)]
			if r.Op != api.Teardown {
				b.watch(laid(r))
			}
		}
	}
	for what, many := range changed[:4] {
		if many < 10 {
			t.Error("seldom changed anything:", what, many)
		}
	}
}

// P19.2: on a server without tenants, and on one whose tenants hold constants alone, there is nothing but the order to change.
func TestPicksOfNothing(t *testing.T) {
	for _, capacity := range []int{0, 1, 10000} {
		for _, d := range deeds() {
			b := newBoth(t, capacity)
			d.do(b.s)
			b.look()
			for tenant := 1; tenant <= 8; tenant++ {
				b.get(api.Req{Op: api.Create, Tenant: tenant, N: 0})
				for i := range 17 {
					b.watch(laid(api.Req{Op: api.Const, Tenant: tenant, Bit: i % 2}))
				}
			}
			d.do(b.s)
			if l := b.look(); len(l.Nums) != 0 || len(l.Held) != 128 {
				t.Error(d.name, l)
			}
			for tenant := 1; tenant <= 8; tenant++ {
				for i := range 16 {
					for op := api.Eval; op <= api.Same; op++ {
						b.get(api.Req{Op: op, Tenant: tenant, A: handle(tenant, i, 0), B: handle(tenant, 3, 0)})
					}
				}
			}
		}
	}
}

// T5: behind a Teardown and Collect there are just the others' nodes, and another can have the quota.
func TestTeardown(t *testing.T) {
	for _, d := range deeds() {
		b, _ := filled(t, 240)
		b.nothing(laid(api.Req{Op: api.Create, Tenant: 5, N: 61}), 4)
		d.do(b.s)
		b.watch(laid(api.Req{Op: api.Teardown, Tenant: 1}))
		for _, x := range b.s.Look().Held {
			if x.Tenant == 1 {
				t.Fatal("held yet:", x)
			}
		}
		b.check(0, 0)
		if d.name == "none" {
			if l := b.look(); len(l.Nums) != b.do(api.Req{Op: api.Status, Tenant: 3}).Charge {
				t.Error(l)
			}
		}
		b.nothing(laid(api.Req{Op: api.Create, Tenant: 5, N: 121}), 4)
		b.get(api.Req{Op: api.Create, Tenant: 5, N: 120})
		b.nothing(laid(api.Req{Op: api.Create, Tenant: 1, N: 1}), 4)
		b.watch(laid(api.Req{Op: api.Teardown, Tenant: 3}))
		b.check(0, 0)
		if l := b.look(); len(l.Nums)+len(l.Held) != 0 {
			t.Error("left:", l)
		}
		b.get(api.Req{Op: api.Create, Tenant: 1, N: 60})
		if got := b.get(api.Req{Op: api.Const, Tenant: 1}); got != handle(1, 0, 1) {
			t.Error(got)
		}
	}
}

// P19.2: by tenants, then by slots: Renew's numbers show in which order it was asked.
func TestRenewByHand(t *testing.T) {
	b := newBoth(t, 30)
	b.get(api.Req{Op: api.Create, Tenant: 5, N: 10})
	b.get(api.Req{Op: api.Create, Tenant: 2, N: 10})
	b.get(api.Req{Op: api.Var, Tenant: 5, N: 0})
	b.get(api.Req{Op: api.Var, Tenant: 5, N: 1})
	b.get(api.Req{Op: api.Var, Tenant: 5, N: 2})
	b.get(api.Req{Op: api.Var, Tenant: 2, N: 3})
	b.get(api.Req{Op: api.Const, Tenant: 2, Bit: 1})
	b.get(api.Req{Op: api.Var, Tenant: 2, N: 2})
	b.get(api.Req{Op: api.Release, Tenant: 5, A: handle(5, 0, 0)})
	b.get(api.Req{Op: api.Var, Tenant: 5, N: 4})
	b.s.Swap(0)
	b.s.Swap(3)
	b.s.Renew()
	want := api.Look{
		Order: [8]int{0, 1, 2, 3, 4, 5, 6, 7},
		Nums:  []int{2, 3, 4, 5},
		Nodes: []api.Node{{Var: 3, Lo: 0, Hi: 1}, {Var: 2, Lo: 0, Hi: 1}, {Var: 4, Lo: 0, Hi: 1}, {Var: 1, Lo: 0, Hi: 1}},
		Held: []api.Held{
			{Tenant: 2, Handle: handle(2, 0, 0), Node: 2}, {Tenant: 2, Handle: handle(2, 1, 0), Node: 1}, {Tenant: 2, Handle: handle(2, 2, 0), Node: 3},
			{Tenant: 5, Handle: handle(5, 0, 1), Node: 4}, {Tenant: 5, Handle: handle(5, 1, 0), Node: 5}, {Tenant: 5, Handle: handle(5, 2, 0), Node: 3},
		},
	}
	if l := b.look(); !alike(l, want) {
		t.Error(l)
	}
	b.do(api.Req{Op: api.Same, Tenant: 5, A: handle(5, 0, 1), B: handle(5, 1, 0)})
}

package serve

import (
	"bower/api"
	"math/rand"
	"slices"
	"testing"
)

// waste are requests of tenants 1 to 4, of quota 60 each, by which most of what is made is held by nobody; the last one has made a node.
// Behind it tenant 1 holds at least four functions, tenant 5 is there without quota, and tenant 6 with sixteen constants.
func waste(t *testing.T, nodes int, draw *rand.Rand) [][]byte {
	t.Helper()
	b := newBoth(t, 10000)
	var l [][]byte
	add := func(r api.Req) api.Resp {
		told := b.do(r)
		l = append(l, laid(r))
		return told
	}
	for tenant := 1; tenant <= 4; tenant++ {
		add(api.Req{Op: api.Create, Tenant: tenant, N: 60})
	}
	add(api.Req{Op: api.Create, Tenant: 5, N: 0})
	add(api.Req{Op: api.Create, Tenant: 6, N: 0})
	for range 16 {
		add(api.Req{Op: api.Const, Tenant: 6, Bit: 1})
	}
	for live := 0; ; {
		r := b.drawMake(1+draw.Intn(4), draw)
		told := add(r)
		if told.Code == 7 {
			t.Fatal("used up:", live)
		}
		now := len(b.s.Look().Nums)
		if now > live && now >= nodes && len(b.m.people[1].held()) >= 4 {
			return l
		}
		live = now
		if held := b.handles(r.Tenant); len(held) > 12 || told.Code == 6 {
			add(b.drawRelease(r.Tenant, draw))
		}
	}
}

// handles tells all handles of a tenant, by slots.
func (b *both) handles(tenant int) []uint64 {
	var l []uint64
	for slot, x := range b.m.people[tenant].places {
		if x.held {
			l = append(l, handle(tenant, slot, x.gen))
		}
	}
	return l
}

// drawMake tells a request that makes a function, of what a tenant holds: more often by an Op by which functions grow.
func (b *both) drawMake(tenant int, draw *rand.Rand) api.Req {
	r := api.Req{Op: 4 + draw.Intn(11), Tenant: tenant, N: draw.Intn(8), Bit: draw.Intn(2)}
	held := b.handles(tenant)
	if len(held) == 0 || draw.Intn(5) == 0 {
		r.Op = api.Var
		return r
	}
	if draw.Intn(5) > 0 {
		r.Op = []int{api.Xor, api.Ite, api.Compose}[draw.Intn(3)]
	}
	turn := draw.Perm(len(held))
	for i, at := range []*uint64{&r.A, &r.B, &r.C} {
		*at = held[turn[i%len(held)]]
	}
	return r
}

// drawRelease tells a request that lets go what a tenant holds: more often the least, so that what grew may stay.
func (b *both) drawRelease(tenant int, draw *rand.Rand) api.Req {
	held := b.handles(tenant)
	h := held[draw.Intn(len(held))]
	if draw.Intn(4) > 0 {
		for _, x := range held {
			if sizeOf(b.m.find(tenant, x).f) < sizeOf(b.m.find(tenant, h).f) {
				h = x
			}
		}
	}
	return api.Req{Op: api.Release, Tenant: tenant, A: h}
}

// replay sends all of it to a server of another capacity.
func replay(t *testing.T, capacity int, l [][]byte) *both {
	t.Helper()
	b := newBoth(t, capacity)
	for _, sent := range l {
		b.send(sent)
	}
	return b
}

// replayRenewed is replay to a server that is renewed and swept while all that there is is held, by which nothing goes and the room stays.
func replayRenewed(t *testing.T, capacity int, l [][]byte) *both {
	t.Helper()
	b := newBoth(t, capacity)
	for _, sent := range l {
		if ahead := b.s.Look(); alike(ahead, collected(ahead)) {
			b.s.Renew()
			b.s.Collect()
		}
		b.send(sent)
	}
	return b
}

// ofEachMaking are requests of tenant 1, of each Op that makes a function.
func (b *both) ofEachMaking() []api.Req {
	h := b.handles(1)
	var l []api.Req
	for op := api.Const; op <= api.Forall; op++ {
		l = append(l, api.Req{Op: op, Tenant: 1, A: h[0], B: h[3], C: h[1], N: op % 8, Bit: op % 2})
	}
	return l
}

// P19.1: with room for just one step nothing is collected; with room for one node less it is, also ahead of what needs no node.
func TestRoomToTheNode(t *testing.T) {
	l := waste(t, 420, rand.New(rand.NewSource(5)))
	live := len(replay(t, 10000, l).look().Nums)
	all := replay(t, live-169, l).ofEachMaking()
	granted := 0
	for _, r := range all {
		enough, less := replay(t, live-169, l), replay(t, live-170, l)
		if r.Op%3 == 0 {
			enough, less = replayRenewed(t, live-169, l), replayRenewed(t, live-170, l)
		}
		if len(enough.look().Nums) != live || len(less.look().Nums) != live {
			t.Fatal("collected by then:", live)
		}
		told, again := enough.watch(laid(r)), less.watch(laid(r))
		if told != again {
			t.Fatal(r, told, again)
		}
		if told.Code != 0 {
			continue
		}
		granted++
		if many := len(enough.look().Nums); many < live {
			t.Error("collected:", r, many)
		}
		if many := len(less.look().Nums); many >= live-100 {
			t.Error("not collected:", r, many)
		}
	}
	if granted < 8 {
		t.Error("seldom granted:", granted)
	}
}

// P19.1: what is refused, and what asks, makes no room, how little there may be.
func TestNoRoomForWhatIsRefused(t *testing.T) {
	l := waste(t, 420, rand.New(rand.NewSource(6)))
	live := len(replay(t, 10000, l).look().Nums)
	b := replay(t, live-170, l)
	none := handle(1, 15, 15)
	for op := api.Create; op <= api.Status; op++ {
		r := api.Req{Op: op, Tenant: 1, A: none, B: none, C: none}
		b.nothing(laid(api.Req{Op: op, Tenant: 9}), 1)
		if op != api.Create {
			r.Tenant = 8
			b.nothing(laid(r), 2)
		}
		if r.Tenant = 1; names(op, 0) {
			b.nothing(laid(r), 5)
		}
	}
	for v := range 8 {
		b.nothing(laid(api.Req{Op: api.Var, Tenant: 5, N: v}), 6)
		b.nothing(laid(api.Req{Op: api.Var, Tenant: 6, N: v}), 6)
	}
	for slot := range 16 {
		h := handle(6, slot, 0)
		for op := api.Const; op <= api.Forall; op++ {
			if op != api.Var {
				b.nothing(laid(api.Req{Op: op, Tenant: 6, A: h, B: h, C: h}), 7)
			}
		}
		for op := api.Eval; op <= api.Same; op++ {
			b.watch(laid(api.Req{Op: op, Tenant: 6, A: h, B: h}))
		}
	}
	for _, h := range b.handles(1) {
		for op := api.Eval; op <= api.Same; op++ {
			b.watch(laid(api.Req{Op: op, Tenant: 1, A: h, B: h}))
		}
	}
	b.watch(laid(api.Req{Op: api.Create, Tenant: 7, N: 0}))
	b.watch(laid(api.Req{Op: api.Release, Tenant: 1, A: b.handles(1)[0]}))
	b.watch(laid(api.Req{Op: api.Revoke, Tenant: 2, A: b.handles(2)[0]}))
	b.watch(laid(api.Req{Op: api.Teardown, Tenant: 3}))
	if many := len(b.look().Nums); many != live {
		t.Error("collected:", many, live)
	}
	b.watch(laid(api.Req{Op: api.Const, Tenant: 5}))
	if l := b.look(); !alike(l, collected(l)) || len(l.Nums) >= live {
		t.Error("not collected:", l)
	}
}

// P19.1, T4: capacities of all kinds, filled by what nobody holds: nothing is refused for want of nodes.
func TestLongRuns(t *testing.T) {
	draw := rand.New(rand.NewSource(8))
	for _, x := range []struct{ capacity, tenants, quota, collects int }{
		{0, 8, 0, 0}, {8, 8, 1, 0}, {8, 1, 8, 0}, {77, 1, 77, 0}, {120, 6, 20, 1}, {320, 8, 40, 1}, {800, 8, 100, 1}, {10000, 8, 1250, 0},
	} {
		b := newBoth(t, x.capacity)
		for tenant := 1; tenant <= x.tenants; tenant++ {
			b.get(api.Req{Op: api.Create, Tenant: tenant, N: x.quota})
		}
		ahead := collects
		for i := range 300 * x.tenants {
			tenant := 1 + draw.Intn(x.tenants)
			r := b.drawMake(tenant, draw)
			if held := b.handles(tenant); len(held) > 12 || len(held) > 4 && draw.Intn(3) == 0 {
				r = b.drawRelease(tenant, draw)
			}
			if i%20 == 0 || b.most()-len(b.s.Look().Nums) < 231 {
				b.watch(laid(r))
			} else {
				b.do(r)
			}
		}
		if b.look(); collects < ahead+x.collects {
			t.Error("never collected:", x)
		}
	}
}

// great lets tenant 1 hold a function that needs as many nodes as one can, 77: first, and for each of the variables 0 to 4 what it picks, exclusively or.
// At level 5 there are 32 unlike functions of 5, 6 and 7 then, which come to all 12 of 6 and 7 that hang on 6.
func (b *both) great(first uint64, turn []int, picks []uint64) uint64 {
	b.t.Helper()
	f := first
	for i, v := range turn {
		term := b.get(api.Req{Op: api.And, Tenant: 1, A: handle(1, v, 0), B: picks[i]})
		next := b.get(api.Req{Op: api.Xor, Tenant: 1, A: f, B: term})
		b.get(api.Req{Op: api.Release, Tenant: 1, A: term})
		b.get(api.Req{Op: api.Release, Tenant: 1, A: f})
		f = next
	}
	if b.get(api.Req{Op: api.Size, Tenant: 1, A: f}) != 77 {
		b.t.Fatal("not so many:", turn)
	}
	return f
}

// greatest lets tenant 1 hold the variables, and three functions that need 203 nodes, which is the most that there can be of three.
func (b *both) greatest(draw *rand.Rand) []uint64 {
	b.t.Helper()
	for v := range 8 {
		b.get(api.Req{Op: api.Var, Tenant: 1, N: v})
	}
	and := func(x, y uint64) uint64 { return b.get(api.Req{Op: api.And, Tenant: 1, A: x, B: y}) }
	five, six, seven := handle(1, 5, 0), handle(1, 6, 0), handle(1, 7, 0)
	picks := []uint64{five, six, seven, and(five, six), and(six, seven)}
	var l []uint64
	for i := range 3 {
		first := and(five, seven)
		switch i {
		case 1:
			first = b.get(api.Req{Op: api.Xor, Tenant: 1, A: first, B: and(first, six)})
		case 2:
			first = b.get(api.Req{Op: api.Not, Tenant: 1, A: first})
		}
		l = append(l, b.great(first, draw.Perm(5), picks))
		for _, h := range b.handles(1) {
			if !slices.Contains(l, h) && !slices.Contains(picks, h) && h>>48&0xff >= 8 {
				b.get(api.Req{Op: api.Release, Tenant: 1, A: h})
			}
		}
	}
	return l
}

// T4: three functions, than which none need more nodes, with room for just one step and more: nothing is refused for want of nodes, nor made wrong.
func TestGreatestFunctions(t *testing.T) {
	most, made := 0, 0
	for seed := range 12 {
		b := newBoth(t, []int{280, 320, 400, 10000}[seed%4])
		b.get(api.Req{Op: api.Create, Tenant: 1, N: 280})
		l := b.greatest(rand.New(rand.NewSource(int64(seed))))
		x, y, z := l[0], l[1], l[2]
		most = max(most, sizeOf(b.m.find(1, x).f, b.m.find(1, y).f, b.m.find(1, z).f))
		for i, r := range []api.Req{
			{Op: api.Ite, A: x, B: y, C: z}, {Op: api.Ite, A: z, B: x, C: y}, {Op: api.Xor, A: x, B: y}, {Op: api.Xor, A: y, B: z},
			{Op: api.Compose, A: x, N: 7, B: y}, {Op: api.Compose, A: y, N: 0, B: z}, {Op: api.Compose, A: z, N: 4, B: x},
			{Op: api.Exists, A: x, N: 0}, {Op: api.Forall, A: x, N: 7}, {Op: api.Restrict, A: y, N: 0, Bit: 1},
			{Op: api.Not, A: x}, {Op: api.And, A: x, B: y}, {Op: api.Or, A: y, B: z},
		} {
			r.Tenant = 1
			if told := b.watch(laid(r)); told.Code == 0 {
				made = max(made, sizeOf(b.m.find(1, told.Val).f))
				b.get(api.Req{Op: api.Release, Tenant: 1, A: told.Val})
			}
			b.s.Swap((i + seed) % 7)
		}
		b.check(2, 100)
		b.check(1, 0)
	}
	if most != 203 || made < 70 {
		t.Error("too few nodes:", most, made)
	}
}

// bad is an order in which what hangs on pairs of neighbours needs many nodes.
var bad = [8]int{0, 2, 4, 6, 1, 3, 5, 7}

// pairs lets each of the tenants hold some functions that hang on pairs of neighbours, with the quotas that are told, and tells how much each came to pay on the way.
func pairs(b *both, tenants int, quotas [9]int) [9]int {
	b.t.Helper()
	draw := rand.New(rand.NewSource(9))
	var most [9]int
	for tenant := 1; tenant <= tenants; tenant++ {
		do := func(r api.Req) uint64 {
			b.t.Helper()
			r.Tenant = tenant
			told := b.do(r)
			if told.Code != 0 {
				b.t.Fatal(r, told)
			}
			most[tenant] = max(most[tenant], told.Charge)
			return told.Val
		}
		do(api.Req{Op: api.Create, N: quotas[tenant]})
		for range 6 {
			var f uint64
			for pair := 3; pair >= 0; pair-- {
				x, y := do(api.Req{Op: api.Var, N: 2 * pair}), do(api.Req{Op: api.Var, N: 2*pair + 1})
				g := do(api.Req{Op: api.And + draw.Intn(3), A: x, B: y})
				do(api.Req{Op: api.Release, A: x})
				do(api.Req{Op: api.Release, A: y})
				if pair == 3 {
					f = g
					continue
				}
				h := do(api.Req{Op: api.And + draw.Intn(3), A: g, B: f})
				do(api.Req{Op: api.Release, A: g})
				do(api.Req{Op: api.Release, A: f})
				f = h
			}
		}
	}
	return most
}

// worse brings the order to bad, level by level, and collects behind each.
func (b *both) worse() {
	b.t.Helper()
	for at, v := range bad {
		for from := 7; from > at; from-- {
			if b.s.Look().Order[from] == v {
				b.check(3, from-1)
				b.check(0, 0)
			}
		}
	}
	if l := b.look(); l.Order != bad {
		b.t.Fatal("no room for it:", l.Order)
	}
}

// P19.1: where there is not enough room behind Collect the store is renewed; where there is just enough it is not.
func TestRenewToTheNode(t *testing.T) {
	const tenants = 8
	var quotas [9]int
	for tenant := range quotas {
		quotas[tenant] = 1000
	}
	b := newBoth(t, 10000)
	quotas = pairs(b, tenants, quotas)
	b.worse()
	held, all := len(b.look().Nums), 0
	for _, q := range quotas {
		all += q
	}
	if all > held-170 {
		t.Fatal("too few nodes:", held, all)
	}
	for _, x := range []struct {
		capacity int
		renews   bool
	}{{held - 168, false}, {held - 169, false}, {held - 170, true}, {held - 171, true}} {
		b := newBoth(t, x.capacity)
		pairs(b, tenants, quotas)
		b.worse()
		h := b.handles(1)
		for _, r := range []api.Req{
			{Op: api.And, Tenant: 1, A: h[0], B: handle(2, 0, 0)},
			{Op: api.Size, Tenant: 1, A: h[0]},
			{Op: api.Release, Tenant: 1, A: h[1]},
		} {
			if r.Op != api.Release {
				b.watch(laid(r))
			}
		}
		if l := b.look(); l.Order != bad {
			t.Fatal("renewed by what makes nothing")
		}
		b.watch(laid(api.Req{Op: api.Const, Tenant: 1}))
		l := b.look()
		if renewed := l.Order != bad; renewed != x.renews || renewed != alike(l, b.renewed()) || !alike(l, collected(l)) {
			t.Error(x, l.Order, len(l.Nums))
		}
		for _, h := range l.Held {
			b.do(api.Req{Op: api.Count, Tenant: h.Tenant, A: h.Handle})
		}
	}
}

// P19.1: a request that names handles, and ahead of which the store is renewed, so that its handles have other nodes.
func TestRenewAheadOfEachMaking(t *testing.T) {
	const tenants = 8
	var quotas [9]int
	for tenant := range quotas {
		quotas[tenant] = 1000
	}
	b := newBoth(t, 10000)
	quotas = pairs(b, tenants, quotas)
	b.worse()
	held := len(b.look().Nums)
	for op := api.Const; op <= api.Forall; op++ {
		b := newBoth(t, held-180)
		pairs(b, tenants, quotas)
		b.worse()
		ahead, granted := renews, false
		for tenant := tenants; tenant >= 1 && !granted; tenant-- {
			h := b.handles(tenant)
			for i := range h {
				r := api.Req{Op: op, Tenant: tenant, A: h[i], B: h[(i+2)%len(h)], C: h[(i+1)%len(h)], N: i}
				if b.watch(laid(r)).Code == 0 {
					granted = true
					break
				}
			}
		}
		if !granted || renews != ahead+1 {
			t.Error("never asked:", op, granted, renews-ahead)
		}
		b.check(0, 0)
	}
}

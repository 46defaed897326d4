package serve

import (
	"bower/api"
	"bytes"
	"math"
	"math/rand"
	"reflect"
	"strings"
	"testing"
)

// capacities are those of which there is a server.
var capacities = []int{0, 1, 2, 76, 77, 231, 400, 9999, 10000}

// P19.1, R3.
func TestNew(t *testing.T) {
	for _, c := range []int{math.MinInt, math.MinInt + 1, -401, -400, -2, -1, 10001, 10002, 19600, 20000, 65535, math.MaxInt - 400, math.MaxInt - 1, math.MaxInt} {
		if New(c) != nil {
			t.Error("a server of", c)
		}
	}
	for _, c := range capacities {
		b := newBoth(t, c)
		if l := b.look(); !alike(l, api.Look{Order: [8]int{0, 1, 2, 3, 4, 5, 6, 7}}) {
			t.Error(c, l)
		}
		for tenant := 1; tenant <= 8; tenant++ {
			b.do(api.Req{Op: api.Status, Tenant: tenant})
		}
		b.do(api.Req{Op: api.Create, Tenant: 3, N: c + 1})
		b.get(api.Req{Op: api.Create, Tenant: 3, N: c})
		b.do(api.Req{Op: api.Create, Tenant: 4, N: 1})
		b.get(api.Req{Op: api.Create, Tenant: 5, N: 0})
	}
}

// told is a request and what is answered to it, but for the tenant.
type told struct {
	ask    api.Req
	answer api.Resp
}

// words are a tenant's requests, worked out by hand: each Op at least once. at tells the tenant's handle of a slot, in generation 0.
func words(at func(slot int) uint64) []told {
	return []told{
		{api.Req{Op: api.Status}, api.Resp{Code: 2}},
		{api.Req{Op: api.Create, N: 50}, api.Resp{}},
		{api.Req{Op: api.Status}, api.Resp{Val: 50}},
		{api.Req{Op: api.Const, Bit: 0}, api.Resp{Val: at(0), Cost: 1}},
		{api.Req{Op: api.Const, Bit: 1}, api.Resp{Val: at(1), Cost: 2}},
		{api.Req{Op: api.Var, N: 0}, api.Resp{Val: at(2), Charge: 1, Cost: 4}},
		{api.Req{Op: api.Var, N: 1}, api.Resp{Val: at(3), Charge: 2, Cost: 6}},
		{api.Req{Op: api.And, A: at(2), B: at(3)}, api.Resp{Val: at(4), Charge: 3, Cost: 11}},
		{api.Req{Op: api.Or, A: at(2), B: at(3)}, api.Resp{Val: at(5), Charge: 4, Cost: 16}},
		{api.Req{Op: api.Xor, A: at(2), B: at(3)}, api.Resp{Val: at(6), Charge: 6, Cost: 22}},
		{api.Req{Op: api.Not, A: at(4)}, api.Resp{Val: at(7), Charge: 7, Cost: 27}},
		{api.Req{Op: api.Ite, A: at(2), B: at(3), C: at(1)}, api.Resp{Val: at(8), Charge: 8, Cost: 32}},
		{api.Req{Op: api.Restrict, A: at(6), N: 0, Bit: 1}, api.Resp{Val: at(9), Charge: 8, Cost: 37}},
		{api.Req{Op: api.Compose, A: at(4), N: 0, B: at(6)}, api.Resp{Val: at(10), Charge: 9, Cost: 45}},
		{api.Req{Op: api.Exists, A: at(6), N: 1}, api.Resp{Val: at(11), Charge: 9, Cost: 49}},
		{api.Req{Op: api.Forall, A: at(5), N: 0}, api.Resp{Val: at(12), Charge: 9, Cost: 53}},
		{api.Req{Op: api.Eval, A: at(10), N: 2}, api.Resp{Val: 1, Charge: 9, Cost: 56}},
		{api.Req{Op: api.Eval, A: at(10), N: 3}, api.Resp{Val: 0, Charge: 9, Cost: 59}},
		{api.Req{Op: api.Count, A: at(5)}, api.Resp{Val: 192, Charge: 9, Cost: 62}},
		{api.Req{Op: api.Support, A: at(5)}, api.Resp{Val: 3, Charge: 9, Cost: 65}},
		{api.Req{Op: api.Size, A: at(6)}, api.Resp{Val: 3, Charge: 9, Cost: 69}},
		{api.Req{Op: api.Same, A: at(12), B: at(3)}, api.Resp{Val: 1, Charge: 9, Cost: 72}},
		{api.Req{Op: api.Same, A: at(12), B: at(2)}, api.Resp{Val: 0, Charge: 9, Cost: 75}},
		{api.Req{Op: api.Release, A: at(6)}, api.Resp{Charge: 8, Cost: 76}},
		{api.Req{Op: api.Revoke, A: at(9)}, api.Resp{Charge: 8, Cost: 76}},
		{api.Req{Op: api.Release, A: at(9)}, api.Resp{Code: 5, Charge: 8, Cost: 76}},
		{api.Req{Op: api.Create, N: 50}, api.Resp{Code: 3, Charge: 8, Cost: 76}},
		{api.Req{Op: api.Var, N: 7}, api.Resp{Val: at(6) + 1, Charge: 9, Cost: 78}},
		{api.Req{Op: api.Status}, api.Resp{Val: 50, Charge: 9, Cost: 78}},
		{api.Req{Op: api.Teardown}, api.Resp{}},
		{api.Req{Op: api.Status}, api.Resp{Code: 2}},
		{api.Req{Op: api.Not, A: at(0)}, api.Resp{Code: 2}},
	}
}

// P19.1: the answers are known by hand, and hold the model, too.
func TestEachOpOfOne(t *testing.T) {
	met := map[int]bool{}
	for tenant := 1; tenant <= 8; tenant++ {
		b := newBoth(t, 50)
		for _, x := range words(func(slot int) uint64 { return handle(tenant, slot, 0) }) {
			x.ask.Tenant, x.answer.Tenant = tenant, tenant
			met[x.ask.Op] = true
			if got := b.watch(laid(x.ask)); got != x.answer {
				t.Fatal(x.ask, got, x.answer)
			}
		}
	}
	for op := 1; op <= 21; op++ {
		if !met[op] {
			t.Error("not asked:", op)
		}
	}
}

// P19.1, T2: all eight ask the same, step by step, and each is answered as if it were alone.
func TestEachOpOfAll(t *testing.T) {
	b := newBoth(t, 400)
	many := len(words(func(int) uint64 { return 0 }))
	for i := range many {
		for tenant := 8; tenant >= 1; tenant-- {
			x := words(func(slot int) uint64 { return handle(tenant, slot, 0) })[i]
			x.ask.Tenant, x.answer.Tenant = tenant, tenant
			if got := b.watch(laid(x.ask)); got != x.answer {
				t.Fatal(x.ask, got, x.answer)
			}
		}
	}
}

// T2: they ask one behind the other, in any turn.
func TestEachOpInAnyTurn(t *testing.T) {
	draw := rand.New(rand.NewSource(1))
	for range 5 {
		b := newBoth(t, 400)
		var next [9]int
		for range 250 {
			tenant := 1 + draw.Intn(8)
			l := words(func(slot int) uint64 { return handle(tenant, slot, 0) })
			if next[tenant] == len(l) {
				continue
			}
			x := l[next[tenant]]
			next[tenant]++
			x.ask.Tenant, x.answer.Tenant = tenant, tenant
			if got := b.watch(laid(x.ask)); got != x.answer {
				t.Fatal(x.ask, got, x.answer)
			}
		}
	}
}

// filled tells both with tenants 1 and 3, whose handles are hs[1] and hs[3]; 2 is there without any, 4 was there, and 5 to 8 never were.
func filled(t *testing.T, capacity int) (*both, [9][]uint64) {
	t.Helper()
	b := newBoth(t, capacity)
	var hs [9][]uint64
	add := func(r api.Req) { hs[r.Tenant] = append(hs[r.Tenant], b.get(r)) }
	for tenant := 1; tenant <= 4; tenant++ {
		b.get(api.Req{Op: api.Create, Tenant: tenant, N: 60})
	}
	for _, tenant := range []int{1, 3, 4} {
		add(api.Req{Op: api.Const, Tenant: tenant, Bit: 1})
		for v := range 4 {
			add(api.Req{Op: api.Var, Tenant: tenant, N: v + tenant})
		}
		h := hs[tenant]
		add(api.Req{Op: api.Xor, Tenant: tenant, A: h[1], B: h[4]})
		h = hs[tenant]
		add(api.Req{Op: api.Ite, Tenant: tenant, A: h[2], B: h[5], C: h[3]})
	}
	b.get(api.Req{Op: api.Teardown, Tenant: 4})
	return b, hs
}

// P19.1, R3, T1: Code 1, all else 0, and nothing changes.
func TestBadRequest(t *testing.T) {
	b, hs := filled(t, 300)
	bad := func(sent []byte) {
		t.Helper()
		if got := b.watch(sent); got != (api.Resp{Code: 1}) {
			t.Fatal(sent, got)
		}
	}
	bad(nil)
	bad([]byte{})
	for x := range 256 {
		bad([]byte{byte(x)})
	}
	for op := 1; op <= 21; op++ {
		for _, tenant := range []int{1, 2, 4, 5} {
			r := api.Req{Op: op, Tenant: tenant, A: hs[1][5], B: hs[1][6], C: hs[1][1], N: 1, Bit: 1}
			sent := laid(r)
			for many := range len(sent) {
				bad(sent[:many:many])
			}
			for _, x := range []byte{0, 1, 255} {
				bad(append(bytes.Clone(sent), x))
			}
			bad(append(bytes.Clone(sent), make([]byte, 300)...))
			for _, x := range []byte{0, 22, 23, 128, 255} {
				bad(append([]byte{x}, sent[1:]...))
			}
			for _, x := range []byte{0, 9, 10, 128, 255} {
				bad(append([]byte{sent[0], x}, sent[2:]...))
			}
		}
	}
	for _, x := range []byte{2, 3, 128, 255} {
		bad([]byte{api.Const, 1, x})
		r := laid(api.Req{Op: api.Restrict, Tenant: 1, A: hs[1][5]})
		bad(append(r[:len(r)-1:len(r)-1], x))
	}
	for _, x := range []byte{8, 9, 128, 255} {
		bad([]byte{api.Var, 1, x})
		for _, op := range []int{api.Restrict, api.Compose, api.Exists, api.Forall} {
			r := laid(api.Req{Op: op, Tenant: 1, A: hs[1][5], B: hs[1][1]})
			r[10] = x
			bad(r)
		}
	}
}

// P19.1: each bit turned, each byte changed, of each Op.
func TestBytesOfAllKinds(t *testing.T) {
	for op := 1; op <= 21; op++ {
		b, hs := filled(t, 300)
		sent := laid(api.Req{Op: op, Tenant: 1, A: hs[1][5], B: hs[1][6], C: hs[1][1], N: 1, Bit: 1})
		for at := range sent {
			for x := range 256 {
				other := bytes.Clone(sent)
				other[at] = byte(x)
				b.send(other)
			}
		}
		b.look()
	}
}

// P19.1: Create in all its cases.
func TestCreate(t *testing.T) {
	b := newBoth(t, 100)
	create := func(tenant, quota, code int) {
		t.Helper()
		if got := b.watch(laid(api.Req{Op: api.Create, Tenant: tenant, N: quota})); got.Code != code || got.Val != 0 {
			t.Fatal(tenant, quota, got)
		}
	}
	create(1, 101, 4)
	create(1, 65535, 4)
	create(1, 40, 0)
	create(1, 0, 3)
	create(1, 60, 3)
	create(1, 61, 3)
	create(1, 65535, 3)
	create(2, 61, 4)
	create(2, 60, 0)
	create(3, 1, 4)
	create(3, 0, 0)
	create(4, 0, 0)
	create(3, 0, 3)
	b.get(api.Req{Op: api.Var, Tenant: 1, N: 2})
	create(1, 70, 3)
	b.get(api.Req{Op: api.Teardown, Tenant: 1})
	create(5, 41, 4)
	create(5, 40, 0)
	create(1, 1, 4)
	create(1, 0, 0)
	for tenant := 1; tenant <= 8; tenant++ {
		b.do(api.Req{Op: api.Status, Tenant: tenant})
	}
}

// P19.1: ahead of the first Create and behind Teardown nothing is answered but NoTenant.
func TestNoTenant(t *testing.T) {
	b, hs := filled(t, 300)
	for op := 2; op <= 21; op++ {
		for tenant := 4; tenant <= 8; tenant++ {
			for _, h := range []uint64{hs[4][5], hs[1][5], 0, math.MaxUint64, handle(tenant, 0, 0)} {
				r := api.Req{Op: op, Tenant: tenant, A: h, B: h, C: h}
				if got := b.watch(laid(r)); got != (api.Resp{Code: 2, Tenant: tenant}) {
					t.Fatal(r, got)
				}
			}
		}
	}
}

// wrongHandles are handles that tenant 1 of filled doesn't hold.
func wrongHandles(hs [9][]uint64) []uint64 {
	l := []uint64{0, 1, 255, math.MaxUint64, math.MaxUint64 - 1, 1 << 63,
		handle(0, 0, 0), handle(9, 0, 0), handle(1, 15, 0), handle(1, 7, 0), handle(1, 16, 0), handle(1, 255, 0),
		handle(1, 0, 1), handle(1, 0, 15), handle(1, 0, 16), handle(1, 5, 255), handle(2, 0, 0), handle(255, 5, 0)}
	l = append(l, hs[3]...)
	l = append(l, hs[4]...)
	for bit := range 64 {
		l = append(l, hs[1][5]^1<<bit)
	}
	return l
}

// holdsAt tells whether tenant 1 of filled holds h.
func holdsAt(hs [9][]uint64, h uint64) bool {
	for _, x := range hs[1] {
		if x == h {
			return true
		}
	}
	return false
}

// names tells whether an Op names A, B or C: 0, 1 or 2.
func names(op, which int) bool { return strings.Contains(shapes[op], "ABC"[which:which+1]) }

// P19.1, T3: as A, as B and as C, each alone and with others that are held.
func TestBadHandle(t *testing.T) {
	b, hs := filled(t, 300)
	asked := 0
	for _, h := range wrongHandles(hs) {
		if holdsAt(hs, h) {
			continue
		}
		for op := 1; op <= 21; op++ {
			for which := 1; which < 8; which++ {
				r := api.Req{Op: op, Tenant: 1, A: hs[1][5], B: hs[1][6], C: hs[1][1], N: 1}
				named := false
				for i, at := range []*uint64{&r.A, &r.B, &r.C} {
					if which>>i&1 == 1 {
						*at = h
						named = named || names(op, i)
					}
				}
				if !named {
					continue
				}
				asked++
				if got := b.send(laid(r)); got.Code != 5 || got.Val != 0 {
					t.Fatal(r, got)
				}
			}
		}
	}
	if asked < 5000 {
		t.Error("few were asked:", asked)
	}
	b.look()
}

// P19.1: with a BadHandle nothing changes: by a Status and a Look of all.
func TestBadHandleChangesNothing(t *testing.T) {
	b, hs := filled(t, 300)
	for op := 1; op <= 21; op++ {
		for _, h := range []uint64{0, hs[3][5], hs[4][5], handle(1, 5, 1), math.MaxUint64} {
			for which := range 3 {
				if !names(op, which) {
					continue
				}
				r := api.Req{Op: op, Tenant: 1, A: hs[1][5], B: hs[1][6], C: hs[1][1]}
				*[]*uint64{&r.A, &r.B, &r.C}[which] = h
				b.nothing(laid(r), 5)
			}
		}
	}
}

// all tells what every tenant's Status is.
func (b *both) all() [9]api.Resp {
	b.t.Helper()
	var l [9]api.Resp
	for tenant := 1; tenant <= 8; tenant++ {
		l[tenant] = b.do(api.Req{Op: api.Status, Tenant: tenant})
	}
	return l
}

// nothing sends what is refused by this code and changes nothing, but for the tenant's cost with codes 6 and 7.
func (b *both) nothing(sent []byte, code int) {
	b.t.Helper()
	ahead, looked := b.all(), b.look()
	got := b.send(sent)
	if got.Code != code || got.Val != 0 {
		b.t.Fatal(sent, got, code)
	}
	if !reflect.DeepEqual(looked, b.look()) {
		b.t.Fatal("what can be seen has changed:", sent, got)
	}
	behind := b.all()
	if code == 6 || code == 7 {
		if behind[got.Tenant].Cost <= ahead[got.Tenant].Cost {
			b.t.Fatal("no cost:", sent, got)
		}
		behind[got.Tenant].Cost = ahead[got.Tenant].Cost
	}
	if ahead != behind {
		b.t.Fatal(sent, got, ahead, behind)
	}
}

// P19.1: what refuses changes nothing, Quota and NoSlot nothing but Cost.
func TestRefusalsChangeNothing(t *testing.T) {
	b, hs := filled(t, 300)
	b.get(api.Req{Op: api.Create, Tenant: 6, N: 2})
	x := b.get(api.Req{Op: api.Var, Tenant: 6, N: 0})
	y := b.get(api.Req{Op: api.Var, Tenant: 6, N: 1})
	b.get(api.Req{Op: api.Create, Tenant: 7, N: 30})
	var full []uint64
	for i := range 16 {
		full = append(full, b.get(api.Req{Op: api.Var, Tenant: 7, N: i % 8}))
	}
	b.nothing([]byte{22, 1}, 1)
	b.nothing([]byte{api.Teardown, 1, 0}, 1)
	b.nothing(laid(api.Req{Op: api.Create, Tenant: 1, N: 1}), 3)
	b.nothing(laid(api.Req{Op: api.Create, Tenant: 8, N: 300}), 4)
	for op := 2; op <= 21; op++ {
		b.nothing(laid(api.Req{Op: op, Tenant: 4, A: hs[4][5], B: hs[4][6], C: hs[4][1]}), 2)
		b.nothing(laid(api.Req{Op: op, Tenant: 5, A: hs[1][5], B: hs[1][6], C: hs[1][1]}), 2)
	}
	for _, r := range []api.Req{
		{Op: api.Var, N: 2}, {Op: api.Not, A: x}, {Op: api.Not, A: y}, {Op: api.And, A: x, B: y}, {Op: api.Or, A: x, B: y},
		{Op: api.Xor, A: x, B: y}, {Op: api.Ite, A: y, B: x, C: y},
	} {
		r.Tenant = 6
		b.nothing(laid(r), 6)
	}
	for _, r := range []api.Req{
		{Op: api.Const, Bit: 0}, {Op: api.Const, Bit: 1}, {Op: api.Var, N: 7}, {Op: api.Not, A: full[3]}, {Op: api.And, A: full[1], B: full[9]},
		{Op: api.Or, A: full[1], B: full[2]}, {Op: api.Xor, A: full[1], B: full[2]}, {Op: api.Ite, A: full[1], B: full[2], C: full[7]},
		{Op: api.Restrict, A: full[1], N: 2}, {Op: api.Compose, A: full[1], N: 1, B: full[6]}, {Op: api.Exists, A: full[1], N: 0},
		{Op: api.Forall, A: full[1], N: 1},
	} {
		r.Tenant = 7
		b.nothing(laid(r), 7)
	}
}

// P19.1, R1: of more than one Code the one that is named first.
func TestTurnOfCodes(t *testing.T) {
	b := newBoth(t, 20)
	code := func(r api.Req, code int) {
		t.Helper()
		b.nothing(laid(r), code)
	}
	none := handle(1, 15, 3)
	b.nothing([]byte{api.Create, 1, 0}, 1)
	b.nothing([]byte{api.Var, 1, 8}, 1)
	code(api.Req{Op: api.Not, Tenant: 1, A: none}, 2)
	b.get(api.Req{Op: api.Create, Tenant: 1, N: 3})
	code(api.Req{Op: api.Create, Tenant: 1, N: 18}, 3)
	b.nothing([]byte{api.Var, 1, 8}, 1)
	b.nothing(append(laid(api.Req{Op: api.Not, Tenant: 1, A: none}), 0), 1)
	x := b.get(api.Req{Op: api.Var, Tenant: 1, N: 0})
	y := b.get(api.Req{Op: api.Var, Tenant: 1, N: 1})
	b.get(api.Req{Op: api.And, Tenant: 1, A: x, B: y})
	code(api.Req{Op: api.Xor, Tenant: 1, A: x, B: y}, 6)
	code(api.Req{Op: api.Xor, Tenant: 1, A: x, B: none}, 5)
	code(api.Req{Op: api.Ite, Tenant: 1, A: x, B: y, C: none}, 5)
	for range 13 {
		b.get(api.Req{Op: api.Var, Tenant: 1, N: 1})
	}
	code(api.Req{Op: api.Var, Tenant: 1, N: 1}, 7)
	code(api.Req{Op: api.Var, Tenant: 1, N: 2}, 6)
	code(api.Req{Op: api.Xor, Tenant: 1, A: x, B: y}, 6)
	code(api.Req{Op: api.And, Tenant: 1, A: x, B: y}, 7)
	code(api.Req{Op: api.Or, Tenant: 1, A: x, B: none}, 5)
	code(api.Req{Op: api.And, Tenant: 1, A: none, B: y}, 5)
	code(api.Req{Op: api.Compose, Tenant: 1, A: x, B: none}, 5)
	code(api.Req{Op: api.Compose, Tenant: 1, A: none, B: x}, 5)
	code(api.Req{Op: api.Create, Tenant: 1, N: 18}, 3)
	b.get(api.Req{Op: api.Teardown, Tenant: 1})
	code(api.Req{Op: api.Xor, Tenant: 1, A: x, B: y}, 2)
}

// P19.1: twice, if it is named twice; three times, too.
func TestNamedTwice(t *testing.T) {
	b, hs := filled(t, 300)
	h := hs[1][6]
	size := int(b.get(api.Req{Op: api.Size, Tenant: 1, A: h}))
	if size < 3 {
		t.Fatal("too small:", size)
	}
	for _, x := range []struct {
		r    api.Req
		cost int
	}{
		{api.Req{Op: api.And, A: h, B: h}, 1 + 3*size},
		{api.Req{Op: api.Or, A: h, B: h}, 1 + 3*size},
		{api.Req{Op: api.Xor, A: h, B: h}, 1 + 2*size},
		{api.Req{Op: api.Ite, A: h, B: h, C: h}, 1 + 4*size},
		{api.Req{Op: api.Ite, A: h, B: h, C: hs[1][0]}, 1 + 2*size},
		{api.Req{Op: api.Ite, A: h, B: hs[1][0], C: h}, 1 + 3*size},
		{api.Req{Op: api.Ite, A: hs[1][0], B: h, C: h}, 1 + 3*size},
		{api.Req{Op: api.Same, A: h, B: h}, 1 + 2*size},
		{api.Req{Op: api.Compose, A: h, N: 0, B: h}, 1 + 3*size},
	} {
		x.r.Tenant = 1
		ahead := b.do(api.Req{Op: api.Status, Tenant: 1}).Cost
		if got := b.watch(laid(x.r)); got.Code != 0 || got.Cost-ahead != x.cost {
			t.Error(x, got, ahead)
		}
	}
}

// T4: one below the quota, just that, and one above.
func TestQuota(t *testing.T) {
	for _, x := range []struct {
		make func(b *both) api.Req
		need int
	}{
		// x0 and x1 are held by then, which need 2.
		{func(b *both) api.Req { return api.Req{Op: api.Const, Bit: 1} }, 2},
		{func(b *both) api.Req { return api.Req{Op: api.Var, N: 1} }, 2},
		{func(b *both) api.Req { return api.Req{Op: api.Var, N: 2} }, 3},
		{func(b *both) api.Req { return api.Req{Op: api.Not, A: handle(1, 0, 0)} }, 3},
		{func(b *both) api.Req { return api.Req{Op: api.And, A: handle(1, 0, 0), B: handle(1, 1, 0)} }, 3},
		{func(b *both) api.Req { return api.Req{Op: api.Or, A: handle(1, 0, 0), B: handle(1, 1, 0)} }, 3},
		{func(b *both) api.Req { return api.Req{Op: api.Xor, A: handle(1, 0, 0), B: handle(1, 1, 0)} }, 4},
		{func(b *both) api.Req { return api.Req{Op: api.Xor, A: handle(1, 1, 0), B: handle(1, 1, 0)} }, 2},
		{func(b *both) api.Req {
			return api.Req{Op: api.Ite, A: handle(1, 1, 0), B: handle(1, 0, 0), C: handle(1, 1, 0)}
		}, 3},
		{func(b *both) api.Req { return api.Req{Op: api.Restrict, A: handle(1, 0, 0), N: 0} }, 2},
		{func(b *both) api.Req { return api.Req{Op: api.Restrict, A: handle(1, 0, 0), N: 1} }, 2},
		{func(b *both) api.Req { return api.Req{Op: api.Compose, A: handle(1, 0, 0), N: 0, B: handle(1, 1, 0)} }, 2},
		{func(b *both) api.Req { return api.Req{Op: api.Exists, A: handle(1, 0, 0), N: 0} }, 2},
		{func(b *both) api.Req { return api.Req{Op: api.Forall, A: handle(1, 0, 0), N: 3} }, 2},
	} {
		for quota := 2; quota <= 5; quota++ {
			for _, capacity := range []int{quota, quota + 1, 1000} {
				b := newBoth(t, capacity)
				b.get(api.Req{Op: api.Create, Tenant: 1, N: quota})
				b.get(api.Req{Op: api.Var, Tenant: 1, N: 0})
				b.get(api.Req{Op: api.Var, Tenant: 1, N: 1})
				r := x.make(b)
				r.Tenant = 1
				if x.need > quota {
					b.nothing(laid(r), 6)
					continue
				}
				if got := b.watch(laid(r)); got.Code != 0 || got.Charge != x.need {
					t.Fatal(r, got)
				}
			}
		}
	}
}

// T4: parts of what is held are paid for once: h is x1 and x2 and .. x7, which needs 7 nodes.
func TestQuotaOfParts(t *testing.T) {
	b := newBoth(t, 8)
	b.get(api.Req{Op: api.Create, Tenant: 1, N: 8})
	h := b.get(api.Req{Op: api.Var, Tenant: 1, N: 7})
	for v := 6; v >= 1; v-- {
		x := b.get(api.Req{Op: api.Var, Tenant: 1, N: v})
		next := b.get(api.Req{Op: api.And, Tenant: 1, A: x, B: h})
		b.get(api.Req{Op: api.Release, Tenant: 1, A: x})
		b.get(api.Req{Op: api.Release, Tenant: 1, A: h})
		h = next
	}
	charge := func(r api.Req, charge int) uint64 {
		t.Helper()
		r.Tenant = 1
		got := b.watch(laid(r))
		if got.Code != 0 || got.Charge != charge {
			t.Fatal(r, got)
		}
		return got.Val
	}
	charge(api.Req{Op: api.Status}, 7)
	below := charge(api.Req{Op: api.Restrict, A: h, N: 1, Bit: 1}, 7)
	charge(api.Req{Op: api.Restrict, A: below, N: 2, Bit: 1}, 7)
	charge(api.Req{Op: api.Var, N: 7}, 7)
	charge(api.Req{Op: api.And, A: h, B: below}, 7)
	charge(api.Req{Op: api.Or, A: h, B: below}, 7)
	b.nothing(laid(api.Req{Op: api.Restrict, Tenant: 1, A: h, N: 3, Bit: 1}), 6)
	b.nothing(laid(api.Req{Op: api.Not, Tenant: 1, A: h}), 6)
	x := charge(api.Req{Op: api.Restrict, A: h, N: 2, Bit: 1}, 8)
	b.nothing(laid(api.Req{Op: api.Var, Tenant: 1, N: 6}), 6)
	charge(api.Req{Op: api.Restrict, A: h, N: 2, Bit: 1}, 8)
	charge(api.Req{Op: api.Release, A: x}, 8)
	charge(api.Req{Op: api.Revoke, A: h}, 8)
	charge(api.Req{Op: api.Var, N: 7}, 8)
}

// T4: a tenant without quota may hold what needs no node, and nothing else.
func TestNoQuota(t *testing.T) {
	b := newBoth(t, 0)
	b.get(api.Req{Op: api.Create, Tenant: 2, N: 0})
	c := b.get(api.Req{Op: api.Const, Tenant: 2, Bit: 0})
	d := b.get(api.Req{Op: api.Not, Tenant: 2, A: c})
	for v := range 8 {
		b.nothing(laid(api.Req{Op: api.Var, Tenant: 2, N: v}), 6)
	}
	for _, r := range requests([9][]uint64{1: {c, d, c, d, c, d, c}, 3: {c, c, c}}) {
		if r.Tenant == 1 && r.Op > api.Revoke && r.Op != api.Var && r.Op != api.Release {
			r.Tenant = 2
			if got := b.watch(laid(r)); got.Code == 6 || got.Charge != 0 {
				t.Fatal(r, got)
			}
		}
	}
}

// P19.1: sixteen are held, and no more.
func TestSixteenSlots(t *testing.T) {
	b := newBoth(t, 30)
	b.get(api.Req{Op: api.Create, Tenant: 2, N: 10})
	b.get(api.Req{Op: api.Create, Tenant: 8, N: 10})
	for slot := range 16 {
		for _, tenant := range []int{2, 8} {
			if got := b.watch(laid(api.Req{Op: api.Const, Tenant: tenant, Bit: slot % 2})); got.Val != handle(tenant, slot, 0) {
				t.Fatal(slot, got)
			}
		}
	}
	b.nothing(laid(api.Req{Op: api.Const, Tenant: 2}), 7)
	b.nothing(laid(api.Req{Op: api.Var, Tenant: 8}), 7)
	b.get(api.Req{Op: api.Revoke, Tenant: 2, A: handle(2, 9, 0)})
	b.get(api.Req{Op: api.Release, Tenant: 2, A: handle(2, 4, 0)})
	b.nothing(laid(api.Req{Op: api.Const, Tenant: 8}), 7)
	for _, slot := range []int{4, 9} {
		if got := b.watch(laid(api.Req{Op: api.Const, Tenant: 2})); got.Val != handle(2, slot, 1) {
			t.Fatal(slot, got)
		}
	}
	b.nothing(laid(api.Req{Op: api.Const, Tenant: 2}), 7)
}

// T3: a slot is let go sixteen times, by Release, Revoke and Teardown, until none is left; no handle is told twice.
func TestAllGenerations(t *testing.T) {
	b := newBoth(t, 30)
	anew := func() {
		t.Helper()
		b.get(api.Req{Op: api.Teardown, Tenant: 3})
		b.do(api.Req{Op: api.Const, Tenant: 3})
		b.get(api.Req{Op: api.Create, Tenant: 3, N: 10})
	}
	b.get(api.Req{Op: api.Create, Tenant: 3, N: 10})
	met := map[uint64]bool{}
	for i := range 256 {
		got := b.do(api.Req{Op: api.Var, Tenant: 3, N: i % 8})
		if got.Code == 7 {
			anew()
			got = b.do(api.Req{Op: api.Var, Tenant: 3, N: i % 8})
		}
		if got.Code != 0 || met[got.Val] {
			t.Fatal("none, or told twice:", i, got)
		}
		met[got.Val] = true
		switch i % 7 {
		case 0, 1:
			b.get(api.Req{Op: api.Release, Tenant: 3, A: got.Val})
		case 2, 3:
			b.get(api.Req{Op: api.Revoke, Tenant: 3, A: got.Val})
		case 6:
			anew()
		}
		for h := range met {
			good := b.m.find(3, h) != nil
			if code := b.do(api.Req{Op: api.Count, Tenant: 3, A: h}).Code; good != (code == 0) {
				t.Fatal(h, good, code)
			}
		}
	}
	anew()
	b.nothing(laid(api.Req{Op: api.Const, Tenant: 3}), 7)
	b.nothing(laid(api.Req{Op: api.Var, Tenant: 3, N: 2}), 7)
	for h := range met {
		b.nothing(laid(api.Req{Op: api.Not, Tenant: 3, A: h}), 5)
	}
	b.get(api.Req{Op: api.Create, Tenant: 4, N: 10})
	if got := b.get(api.Req{Op: api.Const, Tenant: 4}); got != handle(4, 0, 0) {
		t.Error(got)
	}
}

// P19.1: by each variable, of a function that hangs on some, and of constants; rows 0 and 255; variables 0 to 7.
func TestVariables(t *testing.T) {
	for v := range 8 {
		b, hs := filled(t, 300)
		zero := b.get(api.Req{Op: api.Const, Tenant: 1, Bit: 0})
		for _, r := range []api.Req{
			{Op: api.Var, N: v},
			{Op: api.Restrict, A: hs[1][6], N: v, Bit: 0},
			{Op: api.Restrict, A: hs[1][6], N: v, Bit: 1},
			{Op: api.Restrict, A: zero, N: v, Bit: 1},
			{Op: api.Restrict, A: hs[1][0], N: v, Bit: 0},
			{Op: api.Compose, A: hs[1][6], N: v, B: hs[1][5]},
			{Op: api.Compose, A: hs[1][6], N: v, B: zero},
			{Op: api.Compose, A: hs[1][5], N: v, B: hs[1][0]},
			{Op: api.Compose, A: zero, N: v, B: hs[1][5]},
			{Op: api.Compose, A: hs[1][0], N: v, B: hs[1][5]},
			{Op: api.Exists, A: hs[1][6], N: v},
			{Op: api.Exists, A: hs[1][0], N: v},
			{Op: api.Exists, A: zero, N: v},
			{Op: api.Forall, A: hs[1][6], N: v},
			{Op: api.Forall, A: hs[1][0], N: v},
			{Op: api.Forall, A: zero, N: v},
		} {
			r.Tenant = 1
			h := b.watch(laid(r))
			if h.Code != 0 {
				t.Fatal(r, h)
			}
			b.ask(h.Val)
			b.get(api.Req{Op: api.Release, Tenant: 1, A: h.Val})
		}
	}
}

// ask asks all that there is to be asked of a handle.
func (b *both) ask(h uint64) {
	b.t.Helper()
	tenant := int(h >> 56)
	for _, op := range []int{api.Count, api.Support, api.Size} {
		b.get(api.Req{Op: op, Tenant: tenant, A: h})
	}
	for row := range 256 {
		b.get(api.Req{Op: api.Eval, Tenant: tenant, A: h, N: row})
	}
	for slot, x := range b.m.people[tenant].places {
		if x.held {
			other := handle(tenant, slot, x.gen)
			b.get(api.Req{Op: api.Same, Tenant: tenant, A: h, B: other})
			b.get(api.Req{Op: api.Same, Tenant: tenant, A: other, B: h})
		}
	}
}

// P19.1: rows 0 and 255 known by hand.
func TestRows(t *testing.T) {
	b := newBoth(t, 10)
	b.get(api.Req{Op: api.Create, Tenant: 1, N: 10})
	for v := range 8 {
		h := b.get(api.Req{Op: api.Var, Tenant: 1, N: v})
		for _, x := range []struct{ row, val int }{{0, 0}, {255, 1}, {1 << v, 1}, {255 - 1<<v, 0}} {
			if got := b.get(api.Req{Op: api.Eval, Tenant: 1, A: h, N: x.row}); got != uint64(x.val) {
				t.Error(v, x, got)
			}
		}
		if b.get(api.Req{Op: api.Support, Tenant: 1, A: h}) != 1<<v || b.get(api.Req{Op: api.Count, Tenant: 1, A: h}) != 128 {
			t.Error(v)
		}
	}
	one := b.get(api.Req{Op: api.Const, Tenant: 1, Bit: 1})
	if b.get(api.Req{Op: api.Count, Tenant: 1, A: one}) != 256 || b.get(api.Req{Op: api.Size, Tenant: 1, A: one}) != 0 {
		t.Error("one")
	}
}

// T4: two who hold the same function share its nodes, and each pays for it.
func TestShared(t *testing.T) {
	b := newBoth(t, 100)
	var nodes [9]int
	for tenant := 1; tenant <= 8; tenant++ {
		b.get(api.Req{Op: api.Create, Tenant: tenant, N: 5})
		x := b.get(api.Req{Op: api.Var, Tenant: tenant, N: 2})
		y := b.get(api.Req{Op: api.Var, Tenant: tenant, N: 6})
		b.get(api.Req{Op: api.Xor, Tenant: tenant, A: x, B: y})
		if got := b.do(api.Req{Op: api.Status, Tenant: tenant}); got.Charge != 4 || got.Cost != 10 {
			t.Error(got)
		}
		l := b.look()
		nodes[tenant] = l.Held[len(l.Held)-1].Node
		if nodes[tenant] != nodes[1] || len(l.Nums) != 4 {
			t.Error(tenant, l)
		}
	}
	b.get(api.Req{Op: api.Teardown, Tenant: 1})
	for tenant := 2; tenant <= 8; tenant++ {
		if got := b.do(api.Req{Op: api.Status, Tenant: tenant}); got.Charge != 4 {
			t.Error(got)
		}
	}
	b.s.Collect()
	if l := b.look(); len(l.Nums) != 4 {
		t.Error(l)
	}
}

// P19.3, R2.
func TestNewMemory(t *testing.T) {
	b, hs := filled(t, 300)
	sent := laid(api.Req{Op: api.Size, Tenant: 1, A: hs[1][6]})
	one, two := b.s.Do(sent), b.s.Do(sent)
	three := b.s.Do(sent)
	for i := range two {
		two[i] = 255
	}
	two = append(two[:0], make([]byte, cap(two))...)
	if one[0] != 0 || three[0] != 0 || !bytes.Equal(one[:12], three[:12]) {
		t.Error(one, three)
	}
	for i := range sent {
		sent[i] = 255
	}
	for _, bad := range [][]byte{nil, {0}, {2, 5}} {
		got, again := b.s.Do(bad), b.s.Do(bad)
		got[0], got[19] = 9, 9
		if again[19] != 0 || b.s.Do(bad)[19] != 0 {
			t.Error("shared:", bad)
		}
	}
	l, kept := b.s.Look(), b.s.Look()
	for i := range l.Nums {
		l.Nums[i], l.Nodes[i] = -1, api.Node{Var: -1}
	}
	for i := range l.Held {
		l.Held[i] = api.Held{}
	}
	l.Nums, l.Nodes, l.Held = append(l.Nums, 5), append(l.Nodes, api.Node{}), append(l.Held, api.Held{})
	if !reflect.DeepEqual(b.s.Look(), kept) {
		t.Error("what was told is what is kept")
	}
	b2, _ := filled(t, 300)
	if !reflect.DeepEqual(b2.s.Look(), kept) {
		t.Error(b2.s.Look(), kept)
	}
	b.get(api.Req{Op: api.Teardown, Tenant: 1})
	b.s.Collect()
	if !reflect.DeepEqual(b2.s.Look(), kept) {
		t.Error("Look has changed behind what was told")
	}
}

// R2: the bytes that are sent may be changed later.
func TestSentIsNotKept(t *testing.T) {
	b := newBoth(t, 10)
	sent := []byte{api.Create, 1, 0, 10}
	b.send(sent)
	sent[3] = 1
	b.do(api.Req{Op: api.Status, Tenant: 1})
	sent = laid(api.Req{Op: api.Var, Tenant: 1, N: 3})
	h := b.send(sent).Val
	sent[2] = 4
	b.ask(h)
}

// Two servers know nothing of each other.
func TestTwoServers(t *testing.T) {
	one, hs := filled(t, 300)
	two := newBoth(t, 300)
	if l := two.look(); len(l.Nums)+len(l.Held) != 0 {
		t.Error(l)
	}
	for tenant := 1; tenant <= 8; tenant++ {
		two.do(api.Req{Op: api.Not, Tenant: tenant, A: hs[1][5]})
	}
	two.get(api.Req{Op: api.Create, Tenant: 1, N: 300})
	two.nothing(laid(api.Req{Op: api.Not, Tenant: 1, A: hs[1][5]}), 5)
	kept := one.look()
	two.get(api.Req{Op: api.Var, Tenant: 1, N: 5})
	two.s.Swap(2)
	two.s.Sift(3)
	two.s.Renew()
	two.s.Collect()
	two.s.Flush()
	two.get(api.Req{Op: api.Teardown, Tenant: 1})
	if !alike(one.look(), kept) {
		t.Error("another server's")
	}
	two, other := filled(t, 300)
	draw := rand.New(rand.NewSource(7))
	for range 300 {
		b, h := one, hs[1]
		if draw.Intn(2) == 0 {
			b, h = two, other[1]
		}
		pick(b.s, draw)
		b.do(api.Req{Op: 4 + draw.Intn(18), Tenant: 1, A: h[draw.Intn(7)], B: h[draw.Intn(7)], C: h[draw.Intn(7)], N: draw.Intn(8), Bit: draw.Intn(2)})
		b.look()
	}
}

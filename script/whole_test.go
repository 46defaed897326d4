package script

import (
	"bower/api"
	"bytes"
	"maps"
	"math/rand"
	"slices"
	"sync"
	"testing"
)

// among tells a script with steps ahead of each of its own, and behind the last one.
func among(l []Step, steps ...Step) []Step {
	var all []Step
	for _, x := range l {
		all = append(append(all, steps...), x)
	}
	return append(all, steps...)
}

// quiet is a script of requests alone.
type quiet struct {
	capacity int
	l        []Step
}

// quietOnes are some, of no more than 50 requests.
func quietOnes(draw *rand.Rand) []quiet {
	l, _ := words(1)
	all := []quiet{{9, l}, {8, l}, {0, l}, {200, requestsOf(busy())}}
	for _, capacity := range []int{9, 77, 200} {
		all = append(all, quiet{capacity, requestsOf(drawScript(capacity, 60, 1, 9, draw))[:45]})
	}
	return all
}

// requestsOf tells the requests of a script.
func requestsOf(l []Step) []Step {
	return slices.DeleteFunc(slices.Clone(l), func(x Step) bool { return x.Kind != kindRequest })
}

// T1: without steps that are no requests, with each of them ahead of each request, with some, and with all of them, the answers are the same to the byte.
func TestOtherStepsChangeNoAnswer(t *testing.T) {
	draw := rand.New(rand.NewSource(31))
	for _, q := range quietOnes(draw) {
		capacity, l := q.capacity, q.l
		want := play(t, capacity, l)
		if len(want) != len(l) {
			t.Fatal("not as many answers as requests:", len(want), len(l))
		}
		for _, x := range others() {
			if got := play(t, capacity, among(l, x)); !slices.EqualFunc(got, want, bytes.Equal) {
				t.Error(capacity, x, got, want)
			}
		}
		for range 5 {
			some := []Step{drawOther(draw), drawOther(draw), drawOther(draw), drawOther(draw)}
			if got := play(t, capacity, among(l, some...)); !slices.EqualFunc(got, want, bytes.Equal) {
				t.Error(capacity, some, got, want)
			}
		}
		if got := newBoth(t, capacity).steps(among(l, others()...)); !slices.EqualFunc(got, want, bytes.Equal) {
			t.Error(capacity, got, want)
		}
		if got := play(t, capacity, among(l[:6], others()...)); !slices.EqualFunc(got, want[:6], bytes.Equal) {
			t.Error(capacity, got, want[:6])
		}
	}
}

// answersOf tells what is answered to the requests that name a tenant; bytes that are no request's name none.
func answersOf(t *testing.T, capacity int, l []Step, tenant int) [][]byte {
	t.Helper()
	told := play(t, capacity, l)
	var answers [][]byte
	for i, x := range requestsOf(l) {
		if r, ok := parse(x.B); ok && r.Tenant == tenant {
			answers = append(answers, told[i])
		}
	}
	return answers
}

// T2: the same requests of a tenant, alone, and among what others ask, and what changes the store.
func TestOthersAreNotToBeSeen(t *testing.T) {
	hand, want := words(4)
	hand, want = hand[:len(hand)-1], want[:len(want)-1]
	draw := rand.New(rand.NewSource(32))
	for range 40 {
		alone := drawScript(60, 60, 1, 1000, draw)
		mine := hand
		if draw.Intn(3) > 0 {
			mine = asTenant(alone, 4)
		}
		want := answersOf(t, 2000, mine, 4)
		for range 3 {
			if got := answersOf(t, 2000, disturbed(mine, 2000, 500, draw), 4); !slices.EqualFunc(got, want, bytes.Equal) {
				t.Fatal("others are to be seen:", got, want)
			}
		}
	}
	for range 20 {
		if got := read(t, answersOf(t, 100, disturbed(hand, 100, 9, draw), 4)); !slices.Equal(got, want) {
			t.Fatal(got, want)
		}
	}
}

// asTenant tells tenant 1's requests as another tenant's, also the handles that they name; what is no request is left out, and a Create of more than others leave.
func asTenant(l []Step, tenant int) []Step {
	var mine []Step
	for _, x := range l {
		r, ok := parse(x.B)
		if !ok || r.Op == api.Create && r.N > 500 {
			continue
		}
		for _, h := range []*uint64{&r.A, &r.B, &r.C} {
			if *h>>56 == 1 {
				*h += uint64(tenant-1) << 56
			}
		}
		r.Tenant = tenant
		mine = append(mine, ask(r))
	}
	return mine
}

// disturbed tells a script with tenant 4's requests, and between them others' and steps that are no requests: 300 at most. The others leave as much as is told of the capacity, so that each Create of tenant 4 succeeds or fails as it would alone.
func disturbed(mine []Step, capacity, leave int, draw *rand.Rand) []Step {
	m := &model{capacity: capacity - leave}
	between := 300/len(mine) - 1
	var l []Step
	for _, x := range mine {
		for range draw.Intn(between + 1) {
			other := drawOther(draw)
			if draw.Intn(3) > 0 {
				other = m.drawRequest([]int{1, 2, 3, 5, 6, 7, 8}[draw.Intn(7)], draw)
			}
			if other.Kind == kindRequest && !m.leaves(other.B) {
				continue
			}
			l = append(l, other)
		}
		l = append(l, x)
	}
	return l
}

// leaves does a request, and tells whether the model could, by what it has alone, and it isn't tenant 4's.
func (m *model) leaves(b []byte) bool {
	r, ok := parse(b)
	return !ok || r.Tenant != 4 && m.do(b).Code != api.NoCapacity
}

// T2: each Create of a tenant fails or succeeds alike, by others who are not alike, in servers that are not alike.
func TestCreateAlike(t *testing.T) {
	create, status := ask(api.Req{Op: api.Create, Tenant: 4, N: 5}), ask(api.Req{Op: api.Status, Tenant: 4})
	makes := ask(api.Req{Op: api.Var, Tenant: 4, N: 7})
	count := ask(api.Req{Op: api.Count, Tenant: 4, A: 4 << 56})
	in := func(tenant, n int) Step { return ask(api.Req{Op: api.Create, Tenant: tenant, N: n}) }
	out := func(tenant int) Step { return ask(api.Req{Op: api.Teardown, Tenant: tenant}) }
	k := []Step{in(2, 10), create, status, out(2), create, status, makes, in(1, 5), count, out(4), in(3, 1), create, makes, in(8, 0)}
	l := []Step{
		in(1, 5000), {Kind: kindSwap, N: 6}, create, {B: []byte{5, 4}}, status, out(1), in(8, 4995), ask(api.Req{Op: api.Var, Tenant: 8, N: 6}),
		create, {Kind: kindRenew}, status, makes, {Kind: kindSift, N: 20}, count, out(4), {Kind: kindCollect}, in(5, 2), create, makes,
	}
	first, second := answersOf(t, 10, k, 4), answersOf(t, 5000, l, 4)
	want := []api.Resp{
		{Code: api.NoCapacity, Tenant: 4}, {Code: api.NoTenant, Tenant: 4}, {Tenant: 4}, {Tenant: 4, Val: 5}, {Tenant: 4, Val: 4 << 56, Charge: 1, Cost: 2},
		{Tenant: 4, Val: 128, Charge: 1, Cost: 4}, {Tenant: 4}, {Code: api.NoCapacity, Tenant: 4}, {Code: api.NoTenant, Tenant: 4},
	}
	if got := read(t, first); !slices.Equal(got, want) {
		t.Error(got)
	}
	if got := read(t, second); !slices.Equal(got, want) {
		t.Error(got)
	}
}

// T3: a handle is good just if it was told to the tenant since its latest Create, and not let go since.
func TestHandles(t *testing.T) {
	draw := rand.New(rand.NewSource(33))
	b := newBoth(t, 40)
	good, gone := map[uint64]int{}, map[uint64]bool{}
	for round := range 500 {
		tenant := 1 + draw.Intn(2)
		switch x := draw.Intn(16); {
		case x == 0:
			b.do(api.Req{Op: api.Teardown, Tenant: tenant})
			for h, of := range good {
				if of == tenant {
					delete(good, h)
					gone[h] = true
				}
			}
		case x < 3:
			b.do(api.Req{Op: api.Create, Tenant: tenant, N: 9})
		case x < 7 && len(b.m.handles(tenant)) > 0:
			held := b.m.handles(tenant)
			h := held[draw.Intn(len(held))]
			b.get(api.Req{Op: []int{api.Release, api.Revoke}[x%2], Tenant: tenant, A: h})
			delete(good, h)
			gone[h] = true
		default:
			if told := b.do(api.Req{Op: api.Var, Tenant: tenant, N: draw.Intn(8)}); told.Code == api.OK {
				if gone[told.Val] || good[told.Val] != 0 {
					t.Fatal("told twice:", told)
				}
				good[told.Val] = tenant
			}
		}
		b.step(drawOther(draw))
		if round%5 == 0 {
			b.askAll(good, gone)
		}
	}
	if len(gone) < 50 {
		t.Error("seldom let go:", len(gone))
	}
}

// askAll asks both tenants of all handles that are good, that were let go, and that come next.
func (b *both) askAll(good map[uint64]int, gone map[uint64]bool) {
	b.t.Helper()
	kept := b.look()
	hs := map[uint64]bool{0: true}
	for h := range good {
		hs[h], hs[h+1] = true, true
	}
	for h := range gone {
		hs[h] = true
	}
	for tenant := 1; tenant <= 2; tenant++ {
		for h := range hs {
			want := api.OK
			if good[h] != tenant {
				want = api.BadHandle
			}
			if !b.m.people[tenant].there {
				want = api.NoTenant
			}
			if told := b.do(api.Req{Op: api.Same, Tenant: tenant, A: h, B: h}); told.Code != want {
				b.t.Fatal(tenant, h, told, want)
			}
		}
	}
	if !alike(kept, b.look()) {
		b.t.Fatal("changed by what asks")
	}
}

// everyone asks each tenant's quota, charge and cost, which have to be the model's; no charge is above its quota.
func (b *both) everyone() int {
	b.t.Helper()
	charges := 0
	for tenant := 1; tenant <= 8; tenant++ {
		told := b.do(api.Req{Op: api.Status, Tenant: tenant})
		if uint64(told.Charge) > told.Val {
			b.t.Fatal("a charge above its quota:", told)
		}
		charges += told.Charge
	}
	return charges
}

// T4: behind every answer all have the charge, cost and quota that they should, and there are no more nodes than there may be.
func TestChargesOfAll(t *testing.T) {
	draw := rand.New(rand.NewSource(34))
	for _, x := range many {
		b := newBoth(t, x.capacity)
		for _, step := range drawScript(x.capacity, 200, x.tenants, 5, draw) {
			b.step(step)
			charges := b.everyone()
			if charges > x.capacity {
				t.Fatal("more than the capacity:", charges)
			}
			if step.Kind == kindRenew && len(b.look().Nums) > charges {
				t.Fatal("more nodes than all charges behind Renew:", charges)
			}
		}
		b.look()
	}
}

// T4: just as many nodes as the quota are granted, one more is not, whatever stands between.
func TestQuotaToTheNode(t *testing.T) {
	for _, x := range others() {
		for quota := range 5 {
			b := newBoth(t, 4)
			b.get(api.Req{Op: api.Create, Tenant: 6, N: quota})
			for v := range 5 {
				b.step(x)
				want := api.OK
				if v >= quota {
					want = api.Quota
				}
				if told := b.do(api.Req{Op: api.Var, Tenant: 6, N: v}); told.Code != want || told.Charge != min(v+1, quota) {
					t.Error(x, quota, v, told)
				}
			}
		}
	}
}

// T5, T4: behind a Teardown and Collect there are just the nodes of the others, whose quota is free again; behind Renew there are no more than all charges.
func TestTeardownAndRenew(t *testing.T) {
	for _, x := range others() {
		b := grown(t)
		b.get(api.Req{Op: api.Create, Tenant: 3, N: 100})
		b.step(x)
		b.do(api.Req{Op: api.Create, Tenant: 4, N: 1})
		b.do(api.Req{Op: api.Teardown, Tenant: 1})
		left := collected(b.look())
		b.step(Step{Kind: kindCollect})
		if got := b.look(); !alike(got, left) || len(left.Nums) == 0 {
			t.Error("not just the others' nodes:", x, got)
		}
		for _, h := range left.Held {
			if h.Tenant == 1 {
				t.Error("held yet:", h)
			}
		}
		b.do(api.Req{Op: api.Create, Tenant: 4, N: 101})
		b.get(api.Req{Op: api.Create, Tenant: 4, N: 100})
		b.step(x)
		b.step(Step{Kind: kindRenew})
		l := b.look()
		if l.Order != plain || len(l.Nums) > b.everyone() || !alike(l, collected(l)) {
			t.Error("not renewed:", x, l)
		}
		b.do(api.Req{Op: api.Teardown, Tenant: 2})
		b.step(Step{Kind: kindCollect})
		if got := b.look(); len(got.Nums)+len(got.Held) != 0 {
			t.Error("left:", x, got)
		}
	}
}

// T6: each handle's function stays, by what is answered of its rows, and by the nodes that are to be seen, which are reduced.
func TestFunctionsStay(t *testing.T) {
	draw := rand.New(rand.NewSource(35))
	b := grown(t)
	fs := map[uint64]table{}
	values := func(tenant int, h uint64, x int) bool {
		t.Helper()
		return b.get(api.Req{Op: api.Eval, Tenant: tenant, A: h, N: x}) == 1
	}
	for tenant := 1; tenant <= 2; tenant++ {
		for _, h := range b.m.handles(tenant) {
			fs[h] = rows(func(x int) bool { return values(tenant, h, x) })
		}
	}
	if len(fs) < 20 {
		t.Fatal("too few handles:", len(fs))
	}
	hold := func(every int, l ...Step) {
		t.Helper()
		for _, x := range l {
			b.step(x)
			b.look()
		}
		for _, h := range slices.Sorted(maps.Keys(fs)) {
			for x := draw.Intn(every); x < 256; x += every {
				if values(int(h>>56), h, x) != fs[h][x] {
					t.Fatal("another function:", h, x, l)
				}
			}
		}
	}
	for _, x := range others() {
		hold(40, x)
	}
	for range 100 {
		hold(90, drawOther(draw), drawOther(draw), drawOther(draw), drawOther(draw))
	}
	hold(1, others()...)
}

// R2: runs know nothing of each other, be it one behind the other, step by step in turn, or at once.
func TestRunsAlone(t *testing.T) {
	draw := rand.New(rand.NewSource(36))
	var all [][]Step
	var want [][][]byte
	for range 8 {
		l := drawScript(150, 120, 3, 4, draw)
		all, want = append(all, l), append(want, play(t, 150, l))
	}
	var bs []*both
	for range all {
		bs = append(bs, newBoth(t, 150))
	}
	for i := range 120 {
		for j, b := range bs {
			b.step(all[j][i])
		}
	}
	got := make([][][]byte, 4*len(all))
	var group sync.WaitGroup
	for i := range got {
		group.Go(func() { got[i], _ = Run(150, all[i%len(all)]) })
	}
	group.Wait()
	for i, told := range got {
		if !slices.EqualFunc(told, want[i%len(all)], bytes.Equal) {
			t.Error("another answer:", i)
		}
	}
}

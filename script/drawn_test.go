package script

import (
	"bower/api"
	"bytes"
	"math"
	"math/rand"
	"slices"
	"testing"
)

// drawOther tells a step that is no request, more often one that changes much; at times one that may not be, or of which nothing is done.
func drawOther(draw *rand.Rand) Step {
	x := Step{Kind: 1 + draw.Intn(5), N: draw.Intn(7)}
	switch draw.Intn(12) {
	case 0:
		l := others()
		return l[draw.Intn(len(l))]
	case 1:
		x.Kind = draw.Int() - math.MaxInt/2
		if x.Kind >= 0 && x.Kind <= 5 {
			x.Kind = 6
		}
	case 2, 3, 4, 5:
		x.Kind = kindSwap
	}
	if x.Kind == kindSift {
		x.N = draw.Intn(150)
	}
	if draw.Intn(4) == 0 {
		x.B = laid(api.Req{Op: api.Teardown, Tenant: 1 + draw.Intn(8)})
	}
	return x
}

// drawHandle tells mostly a handle that a tenant holds, else one that is another's, was let go, or was never told.
func (m *model) drawHandle(tenant int, draw *rand.Rand) uint64 {
	held := m.handles(tenant)
	switch draw.Intn(60) {
	case 0:
		return draw.Uint64()
	case 1:
		return handle(draw.Intn(10), draw.Intn(18), draw.Intn(18))
	case 2, 3:
		return handle(tenant, draw.Intn(16), draw.Intn(3))
	case 4:
		held = m.handles(1 + draw.Intn(8))
	}
	if len(held) == 0 {
		return 0
	}
	return held[draw.Intn(len(held))]
}

// drawOp tells what a tenant asks: more often what makes functions, and what lets go of those where it holds many.
func (m *model) drawOp(tenant int, draw *rand.Rand) int {
	held := len(m.handles(tenant))
	switch {
	case !m.people[tenant].there && draw.Intn(6) > 0:
		return api.Create
	case held < 3 && draw.Intn(3) > 0:
		return api.Var
	case held > 12 && draw.Intn(3) > 0:
		return []int{api.Release, api.Revoke}[draw.Intn(2)]
	case draw.Intn(3) > 0:
		return []int{api.Xor, api.Ite, api.Compose, api.And, api.Or, api.Not, api.Exists, api.Forall, api.Restrict}[draw.Intn(9)]
	}
	op := 1 + draw.Intn(21)
	if op == api.Teardown && draw.Intn(6) > 0 {
		return api.Eval
	}
	return op
}

// drawRequest tells a request's step, and at times one of bytes that are none's.
func (m *model) drawRequest(tenant int, draw *rand.Rand) Step {
	r := api.Req{Op: m.drawOp(tenant, draw), Tenant: tenant, N: draw.Intn(8), Bit: draw.Intn(2)}
	r.A, r.B, r.C = m.drawHandle(tenant, draw), m.drawHandle(tenant, draw), m.drawHandle(tenant, draw)
	switch r.Op {
	case api.Create:
		r.N = draw.Intn(m.left()/2 + 3)
	case api.Eval:
		r.N = draw.Intn(256)
	}
	x := ask(r)
	if draw.Intn(5) == 0 {
		x.N = draw.Int() - math.MaxInt/2
	}
	switch draw.Intn(60) {
	case 0:
		x.B[draw.Intn(len(x.B))] = byte(draw.Intn(256))
	case 1:
		x.B = append(x.B, byte(draw.Intn(3)))
	case 2:
		x.B = x.B[:draw.Intn(len(x.B))]
	}
	return x
}

// drawScript tells a script of so many steps, of some tenants, of which one in so many is no request.
func drawScript(capacity, many, tenants, seldom int, draw *rand.Rand) []Step {
	m := &model{capacity: capacity}
	var l []Step
	for range many {
		if draw.Intn(seldom) == 0 {
			l = append(l, drawOther(draw))
			continue
		}
		x := m.drawRequest(1+draw.Intn(tenants), draw)
		m.do(x.B)
		l = append(l, x)
	}
	return l
}

// drawWaste tells 300 requests of one tenant by which many nodes are made that nobody holds: what it makes of the variables and of what it has it lets go soon.
func drawWaste(capacity int, draw *rand.Rand) []Step {
	m := &model{capacity: capacity}
	var l []Step
	do := func(r api.Req) api.Resp {
		r.Tenant = 1
		l = append(l, ask(r))
		return m.do(laid(r))
	}
	do(api.Req{Op: api.Create, N: capacity})
	for v := range 8 {
		do(api.Req{Op: api.Var, N: v})
	}
	for len(l) < 300 {
		held := m.handles(1)
		turn := draw.Perm(len(held))
		r := api.Req{Op: []int{api.Xor, api.Ite, api.Ite, api.Compose, api.And, api.Not}[draw.Intn(6)], N: draw.Intn(8)}
		r.A, r.B, r.C = held[turn[0]], held[turn[1]], held[turn[2]]
		if told := do(r); (told.Code != api.OK || len(held) > 13) && len(held) > 8 && len(l) < 300 {
			do(api.Req{Op: api.Release, A: held[8+draw.Intn(len(held)-8)]})
		}
	}
	return l
}

// many are what tenants and capacities are drawn of.
var many = []struct{ capacity, tenants int }{{0, 3}, {1, 8}, {20, 2}, {60, 1}, {77, 8}, {150, 3}, {300, 8}, {300, 2}, {1200, 8}, {10000, 1}, {10000, 8}}

// P20.1, P20.2, T1, T4: scripts drawn at random, by Run, step by step, and by a server of tables alone.
func TestDrawn(t *testing.T) {
	draw := rand.New(rand.NewSource(21))
	var codes [8]int
	var ops [22]int
	for range 20 {
		for _, x := range many {
			l := drawScript(x.capacity, 1+draw.Intn(300), x.tenants, 2+draw.Intn(8), draw)
			told := read(t, play(t, x.capacity, l))
			for _, step := range l {
				if step.Kind != kindRequest {
					continue
				}
				if codes[told[0].Code]++; told[0].Code == api.OK {
					ops[step.B[0]]++
				}
				told = told[1:]
			}
			if len(told) != 0 {
				t.Fatal("more answers than requests:", told)
			}
		}
	}
	for code, many := range codes {
		if many < 20 {
			t.Error("seldom:", code, many)
		}
	}
	for op, many := range ops[1:] {
		if many < 20 {
			t.Error("seldom asked:", op+1, many)
		}
	}
}

// T3, T4, T6: the same, with what is to be seen ahead of and behind each step, and no handle told twice.
func TestDrawnAndSeen(t *testing.T) {
	draw := rand.New(rand.NewSource(22))
	var changed [6]int
	for range 3 {
		for _, x := range many {
			for kind, many := range seen(t, x.capacity, drawScript(x.capacity, 300, x.tenants, 4, draw)) {
				changed[kind] += many
			}
		}
	}
	changed[kindFlush]++
	if slices.Min(changed[:]) == 0 {
		t.Error("never changed anything:", changed)
	}
}

// T1, T4: where there is no room left nothing is refused for want of nodes, and no answer is another one, by whatever is picked between.
func TestDrawnWithoutRoom(t *testing.T) {
	draw := rand.New(rand.NewSource(24))
	roomMade := 0
	for _, capacity := range []int{20, 30, 40, 50, 60, 90} {
		l := drawWaste(capacity, draw)
		seen(t, capacity, l)
		want := play(t, capacity, l)
		b := newBoth(t, capacity)
		for _, x := range l {
			ahead := len(b.s.Look().Nums)
			if b.step(x); len(b.s.Look().Nums) < ahead {
				roomMade++
			}
		}
		for _, some := range [][]Step{
			{{Kind: kindSwap, N: draw.Intn(7)}},
			{{Kind: kindSwap, N: draw.Intn(7)}, {Kind: kindFlush}, {Kind: kindSwap, N: draw.Intn(7)}, {Kind: kindSwap, N: draw.Intn(7)}},
			{drawOther(draw), drawOther(draw), drawOther(draw)},
			{{Kind: kindSift, N: 10}, {Kind: kindSwap, N: 3}},
			{{Kind: kindRenew}},
		} {
			if got := newBoth(t, capacity).steps(among(l, some...)); !slices.EqualFunc(got, want, bytes.Equal) {
				t.Error("another answer:", capacity, some)
			}
		}
	}
	if roomMade < 3 {
		t.Error("there was always room:", roomMade)
	}
}

// seen does steps with a look ahead of and behind each, tells how often those of each kind have changed what is to be seen, and fails if a handle is told twice.
func seen(t *testing.T, capacity int, l []Step) [6]int {
	t.Helper()
	b, met := newBoth(t, capacity), map[uint64]bool{}
	var changed [6]int
	for _, step := range l {
		ahead := b.look()
		told := b.step(step)
		behind := b.look()
		if step.Kind >= 0 && step.Kind <= 5 && !alike(ahead, behind) {
			changed[step.Kind]++
		}
		if step.Kind != kindRequest {
			continue
		}
		is := readResp(t, told)
		if is.Code == api.OK && step.B[0] >= api.Const && step.B[0] <= api.Forall {
			if met[is.Val] {
				t.Fatal("told twice:", is)
			}
			met[is.Val] = true
		}
	}
	return changed
}

// P1: steps of all numbers and of bytes that are drawn one by one.
func TestDrawnNumbers(t *testing.T) {
	draw := rand.New(rand.NewSource(23))
	number := func() int {
		return []int{math.MinInt, -1, 0, 1, 2, 3, 4, 5, 6, 7, 299, 300, 301, math.MaxInt, draw.Int(), -draw.Int()}[draw.Intn(16)]
	}
	for range 3000 {
		l := make([]Step, draw.Intn(12))
		if draw.Intn(20) == 0 {
			l = make([]Step, 295+draw.Intn(12))
		}
		for i := range l {
			l[i] = Step{Kind: number(), N: number(), B: make([]byte, draw.Intn(29))}
			for j := range l[i].B {
				l[i].B[j] = byte(draw.Intn(256))
			}
			if len(l[i].B) > 1 && draw.Intn(3) > 0 {
				l[i].B[0], l[i].B[1] = byte(draw.Intn(23)), byte(draw.Intn(10))
			}
		}
		capacity := []int{number(), draw.Intn(10001), 9999 + draw.Intn(3)}[draw.Intn(3)]
		switch told, err := Run(capacity, l); {
		case capacity < 0 || capacity > 10000:
			if told != nil || err != api.ErrArg {
				t.Fatal(capacity, len(l), told, err)
			}
		case len(l) > 300:
			if told != nil || err != api.ErrLarge {
				t.Fatal(capacity, len(l), told, err)
			}
		default:
			if again := play(t, capacity, l); err != nil || !slices.EqualFunc(told, again, bytes.Equal) {
				t.Fatal(capacity, l, told, err)
			}
		}
	}
}

package script

import (
	"bower/api"
	"bower/serve"
	"bytes"
	"math"
	"slices"
	"testing"
)

// words are a tenant's requests and the answers, worked out by hand: each Op at least once.
func words(tenant int) ([]Step, []api.Resp) {
	at := func(slot int) uint64 { return uint64(tenant)<<56 | uint64(slot)<<48 }
	l := []struct {
		ask    api.Req
		answer api.Resp
	}{
		{api.Req{Op: api.Status}, api.Resp{Code: api.NoTenant}},
		{api.Req{Op: api.Create, N: 9}, api.Resp{}},
		{api.Req{Op: api.Status}, api.Resp{Val: 9}},
		{api.Req{Op: api.Const, Bit: 1}, api.Resp{Val: at(0), Cost: 1}},
		{api.Req{Op: api.Var, N: 0}, api.Resp{Val: at(1), Charge: 1, Cost: 3}},
		{api.Req{Op: api.Var, N: 1}, api.Resp{Val: at(2), Charge: 2, Cost: 5}},
		{api.Req{Op: api.And, A: at(1), B: at(2)}, api.Resp{Val: at(3), Charge: 3, Cost: 10}},
		{api.Req{Op: api.Or, A: at(1), B: at(2)}, api.Resp{Val: at(4), Charge: 4, Cost: 15}},
		{api.Req{Op: api.Xor, A: at(1), B: at(2)}, api.Resp{Val: at(5), Charge: 6, Cost: 21}},
		{api.Req{Op: api.Not, A: at(3)}, api.Resp{Val: at(6), Charge: 7, Cost: 26}},
		{api.Req{Op: api.Ite, A: at(1), B: at(2), C: at(0)}, api.Resp{Val: at(7), Charge: 8, Cost: 31}},
		{api.Req{Op: api.Restrict, A: at(5), N: 0, Bit: 1}, api.Resp{Val: at(8), Charge: 8, Cost: 36}},
		{api.Req{Op: api.Compose, A: at(3), N: 0, B: at(5)}, api.Resp{Val: at(9), Charge: 9, Cost: 44}},
		{api.Req{Op: api.Exists, A: at(5), N: 1}, api.Resp{Val: at(10), Charge: 9, Cost: 48}},
		{api.Req{Op: api.Forall, A: at(4), N: 0}, api.Resp{Val: at(11), Charge: 9, Cost: 52}},
		{api.Req{Op: api.Var, N: 2}, api.Resp{Code: api.Quota, Charge: 9, Cost: 54}},
		{api.Req{Op: api.Eval, A: at(9), N: 2}, api.Resp{Val: 1, Charge: 9, Cost: 57}},
		{api.Req{Op: api.Count, A: at(4)}, api.Resp{Val: 192, Charge: 9, Cost: 60}},
		{api.Req{Op: api.Support, A: at(4)}, api.Resp{Val: 3, Charge: 9, Cost: 63}},
		{api.Req{Op: api.Size, A: at(5)}, api.Resp{Val: 3, Charge: 9, Cost: 67}},
		{api.Req{Op: api.Same, A: at(11), B: at(2)}, api.Resp{Val: 1, Charge: 9, Cost: 70}},
		{api.Req{Op: api.Release, A: at(5)}, api.Resp{Charge: 8, Cost: 71}},
		{api.Req{Op: api.Revoke, A: at(8)}, api.Resp{Charge: 8, Cost: 71}},
		{api.Req{Op: api.Count, A: at(8)}, api.Resp{Code: api.BadHandle, Charge: 8, Cost: 71}},
		{api.Req{Op: api.Create, N: 9}, api.Resp{Code: api.TenantIs, Charge: 8, Cost: 71}},
		{api.Req{Op: api.Var, N: 7}, api.Resp{Val: at(5) + 1, Charge: 9, Cost: 73}},
		{api.Req{Op: api.Teardown}, api.Resp{}},
		{api.Req{Op: api.Not, A: at(0)}, api.Resp{Code: api.NoTenant}},
	}
	var steps []Step
	var answers []api.Resp
	for _, x := range l {
		x.ask.Tenant, x.answer.Tenant = tenant, tenant
		steps = append(steps, ask(x.ask))
		answers = append(answers, x.answer)
	}
	return append(steps, Step{}), append(answers, api.Resp{Code: api.BadRequest})
}

// read tells answers by their numbers.
func read(t *testing.T, told [][]byte) []api.Resp {
	t.Helper()
	var l []api.Resp
	for _, b := range told {
		l = append(l, readResp(t, b))
	}
	return l
}

// P20.1: what is answered is known by hand, and holds the model, too.
func TestRunByHand(t *testing.T) {
	for tenant := 1; tenant <= 8; tenant++ {
		l, want := words(tenant)
		if got := read(t, play(t, 9, l)); !slices.Equal(got, want) {
			t.Error(tenant, got, want)
		}
	}
}

// P20.1: a script in which each kind stands, and some of which nothing is done.
func TestRunOfAllKinds(t *testing.T) {
	l := []Step{
		{Kind: kindRenew}, ask(api.Req{Op: api.Create, Tenant: 2, N: 7}), {Kind: kindSwap, N: 0}, ask(api.Req{Op: api.Var, Tenant: 2, N: 4}),
		{Kind: 6, B: laid(api.Req{Op: api.Teardown, Tenant: 2})}, {Kind: kindCollect}, ask(api.Req{Op: api.Var, Tenant: 2, N: 3}),
		{Kind: kindSift, N: 9}, ask(api.Req{Op: api.Xor, Tenant: 2, A: 2 << 56, B: 2<<56 + 1<<48}), {Kind: kindFlush},
		{Kind: -1}, {N: 8}, ask(api.Req{Op: api.Status, Tenant: 2}), {Kind: kindCollect},
	}
	want := []api.Resp{
		{Tenant: 2}, {Tenant: 2, Val: 2 << 56, Charge: 1, Cost: 2}, {Tenant: 2, Val: 2<<56 + 1<<48, Charge: 2, Cost: 4},
		{Tenant: 2, Val: 2<<56 + 2<<48, Charge: 4, Cost: 10}, {Code: api.BadRequest}, {Tenant: 2, Val: 7, Charge: 4, Cost: 10},
	}
	if got := read(t, play(t, 20, l)); !slices.Equal(got, want) {
		t.Error(got)
	}
}

// busy are steps behind which each of the five kinds that are no requests has something to do: nodes that nobody holds, and an order that isn't the plain one and is no good.
func busy() []Step {
	var l []Step
	for tenant := 1; tenant <= 2; tenant++ {
		at := func(slot int) uint64 { return handle(tenant, slot, 0) }
		l = append(l, ask(api.Req{Op: api.Create, Tenant: tenant, N: 100}))
		for v := range 8 {
			l = append(l, ask(api.Req{Op: api.Var, Tenant: tenant, N: v}))
		}
		for i, r := range []api.Req{
			{Op: api.And, A: at(0), B: at(1)}, {Op: api.And, A: at(2), B: at(3)}, {Op: api.And, A: at(4), B: at(5)},
			{Op: api.Or, A: at(8), B: at(9)}, {Op: api.Or, A: at(11), B: at(10)}, {Op: api.Xor, A: at(6), B: at(7)},
			{Op: api.Release, A: at(9)}, {Op: api.Release, A: at(6 + tenant%2)}, {Op: api.Release, A: at(0)}, {Op: api.Not, A: at(12)},
		} {
			r.Tenant = tenant
			l = append(l, ask(r))
			if i == 5 {
				l = append(l, Step{Kind: kindSwap, N: 1}, Step{Kind: kindSwap, N: 3}, Step{Kind: kindSwap, N: 2})
			}
		}
	}
	return l
}

// grown tells a server and a model behind busy.
func grown(t *testing.T) *both {
	t.Helper()
	b := newBoth(t, 300)
	b.steps(busy())
	return b
}

// direct does a step by the server's own calls.
func direct(s *serve.Server, kind, n int) {
	switch kind {
	case kindCollect:
		s.Collect()
	case kindSift:
		s.Sift(n)
	case kindSwap:
		s.Swap(n)
	case kindFlush:
		s.Flush()
	case kindRenew:
		s.Renew()
	}
}

// P20.1, P1: of each kind what is to be seen is what the server's own call leaves; no two kinds leave the same, but where nothing is changed.
func TestDoOfEachKind(t *testing.T) {
	var met []api.Look
	for _, x := range []struct {
		Step
		changes bool
	}{
		{Step{Kind: kindCollect}, true}, {Step{Kind: kindRenew}, true}, {Step{Kind: kindFlush}, false},
		{Step{Kind: kindSift, N: math.MinInt}, false}, {Step{Kind: kindSift, N: -1}, false}, {Step{Kind: kindSift, N: 0}, true},
		{Step{Kind: kindSift, N: 1}, true}, {Step{Kind: kindSift, N: 100}, true}, {Step{Kind: kindSift, N: math.MaxInt}, true},
		{Step{Kind: kindSwap, N: math.MinInt}, false}, {Step{Kind: kindSwap, N: -1}, false}, {Step{Kind: kindSwap, N: 0}, true},
		{Step{Kind: kindSwap, N: 1}, true}, {Step{Kind: kindSwap, N: 2}, true}, {Step{Kind: kindSwap, N: 3}, true},
		{Step{Kind: kindSwap, N: 6}, true}, {Step{Kind: kindSwap, N: 7}, false}, {Step{Kind: kindSwap, N: math.MaxInt}, false},
	} {
		for _, bytes := range [][]byte{nil, {}, {1}, laid(api.Req{Op: api.Teardown, Tenant: 1})} {
			b, twin := grown(t), grown(t)
			ahead := b.look()
			x.Step.B = bytes
			b.step(x.Step)
			direct(twin.s, x.Kind, x.N)
			behind := b.look()
			if !alike(behind, twin.look()) {
				t.Error("not as the server's own:", x)
			}
			if alike(ahead, behind) == x.changes {
				t.Error("changes:", x)
			}
			if x.changes && bytes == nil {
				met = append(met, behind)
			}
		}
	}
	for i, l := range met[:2] {
		if slices.ContainsFunc(met[i+1:], func(k api.Look) bool { return alike(k, l) }) {
			t.Error("the same as another kind leaves:", i)
		}
	}
}

// P20.1: Swap's N is a level, Sift's is how many nodes there may be.
func TestDoHasN(t *testing.T) {
	for level := range 7 {
		b := newBoth(t, 5)
		b.step(Step{Kind: kindSwap, N: level})
		want := plain
		want[level], want[level+1] = level+1, level
		if got := b.look().Order; got != want {
			t.Error(level, got)
		}
	}
	var orders [][8]int
	for _, n := range []int{0, 1 << 20} {
		b := newBoth(t, 300)
		b.get(api.Req{Op: api.Create, Tenant: 1, N: 300})
		at := func(slot, gen int) uint64 { return handle(1, slot, gen) }
		for v := range 8 {
			b.get(api.Req{Op: api.Var, Tenant: 1, N: v})
		}
		for i := range 4 {
			b.get(api.Req{Op: api.And, Tenant: 1, A: at(i, 0), B: at(i+4, 0)})
		}
		for i := range 3 {
			b.get(api.Req{Op: api.Or, Tenant: 1, A: at(8+i+3*min(i, 1), 0), B: at(9+i, 0)})
		}
		for slot := range 14 {
			b.get(api.Req{Op: api.Release, Tenant: 1, A: at(slot, 0)})
		}
		b.step(Step{Kind: kindSift, N: n})
		orders = append(orders, b.look().Order)
		if got := len(b.look().Nums); n > 0 && got >= 15 {
			t.Error("not sifted:", got)
		}
	}
	if orders[0] == orders[1] {
		t.Error("Sift's N is the same to it:", orders)
	}
}

// P20.1: of another kind nothing is told, and nothing is done, whatever else the step has.
func TestDoOfNoKind(t *testing.T) {
	b := grown(t)
	kept := b.look()
	for _, kind := range none {
		for _, n := range []int{math.MinInt, -1, 0, 3, 100, math.MaxInt} {
			for _, bytes := range [][]byte{nil, {}, laid(api.Req{Op: api.Teardown, Tenant: 1}), laid(api.Req{Op: api.Create, Tenant: 3, N: 5})} {
				if b.step(Step{Kind: kind, N: n, B: bytes}); !alike(kept, b.s.Look()) {
					t.Fatal("changed by", kind, n, bytes)
				}
			}
		}
	}
	for tenant := 1; tenant <= 8; tenant++ {
		b.do(api.Req{Op: api.Status, Tenant: tenant})
	}
}

// sent are bytes of all kinds, of a server on which tenant 1 is there and holds the handle h: of each Op, too short, too long, and changed in each of the first bytes.
func sent(h uint64) [][]byte {
	l := [][]byte{nil, {}, {0}, {1}, {0, 0}, {22, 1}, {255, 1}, {21, 0}, {21, 9}, {21, 255}, make([]byte, 20), make([]byte, 1000), bytes.Repeat([]byte{255}, 26)}
	for op := 1; op <= 21; op++ {
		b := laid(api.Req{Op: op, Tenant: 1, A: h, B: h, C: h, N: 3, Bit: 1})
		l = append(l, b, b[:len(b)-1], append(slices.Clone(b), 0), b[:1])
		for _, at := range []int{0, 1, len(b) - 1} {
			for _, to := range []byte{0, 9, 22, 255} {
				x := slices.Clone(b)
				x[at] = to
				l = append(l, x)
			}
		}
	}
	return l
}

// P20.1, T1: all bytes are answered, those that are no request's, too, which change nothing; N is nothing to a request.
func TestDoOfBytes(t *testing.T) {
	for _, n := range []int{0, math.MinInt, -1, 1, 5, 7, 300, math.MaxInt} {
		b := grown(t)
		for _, bytes := range sent(handle(1, 12, 0)) {
			kept := b.look()
			told := readResp(t, b.step(Step{B: bytes, N: n}))
			_, ok := parse(bytes)
			if ok == (told.Code == api.BadRequest) {
				t.Fatal(bytes, told)
			}
			if !ok && (told != api.Resp{Code: api.BadRequest} || !alike(kept, b.look())) {
				t.Fatal("changed by what is no request:", bytes, told)
			}
		}
	}
	all := sent(1 << 56)
	for len(all) > 0 {
		var l []Step
		for i, bytes := range all[:min(len(all), 299)] {
			l = append(l, Step{B: bytes, N: i})
		}
		all = all[len(l):]
		play(t, 50, append([]Step{ask(api.Req{Op: api.Create, Tenant: 1, N: 20})}, l...))
	}
}

// one tells as many steps of one kind.
func one(many int, x Step) []Step {
	return slices.Repeat([]Step{x}, many)
}

// P20.1, R1, R3: which servers there may be, and which steps.
func TestRunErrors(t *testing.T) {
	for _, capacity := range []int{math.MinInt, math.MinInt + 1, -401, -400, -2, -1, 10001, 10002, 20000, math.MaxInt - 400, math.MaxInt - 1, math.MaxInt} {
		for _, many := range []int{0, 1, 299, 300, 301, 302, 1000} {
			for _, x := range others()[:5] {
				if told, err := Run(capacity, one(many, x)); told != nil || err != api.ErrArg {
					t.Error(capacity, many, told, err)
				}
			}
			if told, err := Run(capacity, one(many, Step{})); told != nil || err != api.ErrArg {
				t.Error(capacity, many, told, err)
			}
		}
	}
	for _, capacity := range []int{0, 1, 2, 300, 301, 9999, 10000} {
		for _, many := range []int{301, 302, 600, 1 << 16} {
			for _, x := range []Step{{}, {Kind: kindCollect}, {Kind: 6}, {Kind: -1}, ask(api.Req{Op: api.Create, Tenant: 1, N: 0})} {
				if told, err := Run(capacity, one(many, x)); told != nil || err != api.ErrLarge {
					t.Error(capacity, many, x, told, err)
				}
				mixed := one(many, x)
				mixed[0], mixed[many-1] = Step{Kind: kindRenew}, ask(api.Req{Op: api.Status, Tenant: 2})
				if told, err := Run(capacity, mixed); told != nil || err != api.ErrLarge {
					t.Error(capacity, many, x, told, err)
				}
			}
		}
	}
}

// P20.1: the capacity is what tenants may have.
func TestRunHasCapacity(t *testing.T) {
	for _, capacity := range []int{0, 1, 2, 9999, 10000} {
		l := []Step{
			ask(api.Req{Op: api.Create, Tenant: 1, N: capacity + 1}), ask(api.Req{Op: api.Create, Tenant: 1, N: capacity}),
			ask(api.Req{Op: api.Create, Tenant: 2, N: 1}), ask(api.Req{Op: api.Create, Tenant: 3, N: 0}),
			ask(api.Req{Op: api.Var, Tenant: 1, N: 3}), ask(api.Req{Op: api.Var, Tenant: 1, N: 2}),
		}
		var codes []int
		for _, told := range read(t, play(t, capacity, l)) {
			codes = append(codes, told.Code)
		}
		want := []int{api.NoCapacity, api.OK, api.NoCapacity, api.OK, api.OK, api.OK}
		for i := range max(2-capacity, 0) {
			want[5-i] = api.Quota
		}
		if !slices.Equal(codes, want) {
			t.Error(capacity, codes, want)
		}
	}
}

// P20.1: up to 300 steps are done, be they requests, none, or some of both: no more than 300 steps there may be, not requests.
func TestRunOfMany(t *testing.T) {
	create := ask(api.Req{Op: api.Create, Tenant: 4, N: 3})
	for _, capacity := range []int{0, 3, 10000} {
		for _, many := range []int{0, 1, 2, 150, 299, 300} {
			if told := play(t, capacity, one(many, Step{})); len(told) != many {
				t.Error(many, len(told))
			}
			if told := play(t, capacity, one(many, create)); len(told) != many {
				t.Error(many, len(told))
			}
			for _, x := range append(others()[:5], Step{Kind: -1}, Step{Kind: 6}) {
				if told := play(t, capacity, one(many, x)); len(told) != 0 {
					t.Error(many, told)
				}
				mixed := one(many, x)
				for i := 1; i < many; i += 2 {
					mixed[i] = create
				}
				if told := play(t, capacity, mixed); len(told) != many/2 {
					t.Error(many, len(told))
				}
			}
		}
	}
	l := append(one(299, Step{Kind: kindSwap, N: 2}), create)
	if got := read(t, play(t, 3, l)); !slices.Equal(got, []api.Resp{{Tenant: 4}}) {
		t.Error("the last of 300:", got)
	}
}

// P20.1: no steps, no answers, and no error.
func TestRunOfNothing(t *testing.T) {
	for _, capacity := range []int{0, 1, 9999, 10000} {
		for _, l := range [][]Step{nil, {}, make([]Step, 0, 400)} {
			if told, err := Run(capacity, l); len(told) != 0 || err != nil {
				t.Error(capacity, told, err)
			}
		}
	}
}

// P20.1, P1: each kind alone, and ahead of and behind each other, also with what may not be, on a server without tenants and on one with some.
func TestKindsInPairs(t *testing.T) {
	l := append([]Step{{}, ask(api.Req{Op: api.Status, Tenant: 1}), ask(api.Req{Op: api.Var, Tenant: 1, N: 6}), ask(api.Req{Op: api.Create, Tenant: 8, N: 1})}, others()...)
	for _, x := range l {
		play(t, 2, []Step{x})
		for _, y := range l {
			play(t, 2, []Step{x, y})
			play(t, 2, []Step{ask(api.Req{Op: api.Create, Tenant: 1, N: 1}), x, ask(api.Req{Op: api.Var, Tenant: 1, N: 6}), y, ask(api.Req{Op: api.Count, Tenant: 1, A: 1 << 56})})
		}
	}
}

// inRoom tells steps whose bytes lie in longer memory, and a call that tells whether all of it is as it was.
func inRoom(l []Step) ([]Step, func() bool) {
	l = slices.Clone(l)
	var rooms, kept [][]byte
	for i, x := range l {
		room := slices.Concat([]byte{7, 7, 7}, x.B, bytes.Repeat([]byte{9}, 40))
		rooms, kept = append(rooms, room), append(kept, slices.Clone(room))
		l[i].B = room[3 : 3+len(x.B)]
	}
	return l, func() bool { return slices.EqualFunc(rooms, kept, bytes.Equal) }
}

// whole tells all memory of an answer, also what may lie behind its end.
func whole(b []byte) []byte { return b[:cap(b)] }

// P20.2, R2: no answer shares memory with another, nor with the steps; what is done to one is nothing to the next, nor to another run.
func TestNewMemory(t *testing.T) {
	hand, want := words(3)
	l, stays := inRoom(hand)
	told := play(t, 9, l)
	again := play(t, 9, l)
	// From the last one on, as what lies behind an answer's end may be the next one's.
	for i, b := range slices.Backward(told) {
		clear(whole(b))
		told[i] = append(b[:0], bytes.Repeat([]byte{byte(100 + i)}, 20)...)
	}
	for i, b := range told {
		if !bytes.Equal(b, bytes.Repeat([]byte{byte(100 + i)}, 20)) {
			t.Error("shared with another answer:", i)
		}
	}
	for i, b := range told {
		told[i] = append(b, byte(i))
		clear(told[i])
	}
	for i, b := range told {
		if !bytes.Equal(b, make([]byte, 21)) {
			t.Error("another answer lies behind its end:", i)
		}
	}
	if clear(told); !stays() {
		t.Error("shared with the steps")
	}
	if got := read(t, again); !slices.Equal(got, want) {
		t.Error("shared with another run:", got)
	}
	for i := range l {
		clear(l[i].B)
	}
	if clear(l); !slices.Equal(read(t, again), want) {
		t.Error("the answers share with the steps")
	}
	if got := read(t, play(t, 9, hand)); !slices.Equal(got, want) {
		t.Error(got)
	}
}

// P20.2, R2: what Do tells is new, and what it is given is not kept.
func TestNewMemoryOfDo(t *testing.T) {
	steps, want := words(5)
	for _, x := range others() {
		b := newBoth(t, 9)
		l, stays := inRoom(steps)
		var all [][]byte
		for i := range l {
			kept := slices.Clone(l[i].B)
			told := b.step(l[i])
			all = append(all, slices.Clone(told))
			clear(whole(told))
			if !stays() {
				t.Fatal("the answer shares with the step:", i)
			}
			clear(l[i].B)
			b.step(x)
			copy(l[i].B, kept)
		}
		if got := read(t, all); !slices.Equal(got, want) {
			t.Error(x, got)
		}
	}
	b := newBoth(t, 9)
	var all [][]byte
	for range 5 {
		all = append(all, b.step(Step{}), b.step(ask(api.Req{Op: api.Status, Tenant: 1})))
	}
	for i, told := range slices.Backward(all) {
		clear(whole(told))
		told[0] = byte(50 + i)
	}
	for i, told := range all {
		if told[0] != byte(50+i) {
			t.Error("shared:", i)
		}
	}
}

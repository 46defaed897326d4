package script

import (
	"bower/api"
	"bower/serve"
	"bytes"
	"math"
	"slices"
	"strings"
	"testing"
)

// The kinds of steps, by the chapter's numbers.
const (
	kindRequest = 0
	kindCollect = 1
	kindSift    = 2
	kindSwap    = 3
	kindFlush   = 4
	kindRenew   = 5
)

// none are some of the kinds of which nothing is done.
var none = []int{-1, 6, -2, 7, 8, 21, 77, 255, 256, 257, 261, 1 << 16, 1<<32 + 1, -1 << 32, math.MinInt, math.MinInt + 1, math.MaxInt - 1, math.MaxInt}

// others are steps that are no requests: each kind, with an N that may be and that may not be; each has a request's bytes that would be answered.
func others() []Step {
	l := []Step{{Kind: kindCollect}, {Kind: kindFlush}, {Kind: kindRenew}}
	for _, n := range []int{math.MinInt, -1, 0, 1, 100, math.MaxInt} {
		l = append(l, Step{Kind: kindSift, N: n})
	}
	for _, n := range []int{math.MinInt, -1, 0, 3, 6, 7, math.MaxInt} {
		l = append(l, Step{Kind: kindSwap, N: n})
	}
	for _, kind := range none {
		l = append(l, Step{Kind: kind, N: 3})
	}
	for i := range l {
		l[i].B = laid(api.Req{Op: api.Create, Tenant: 1 + i%8, N: 0})
	}
	return l
}

// ask is the step of a request.
func ask(r api.Req) Step { return Step{B: laid(r)} }

// copied tells steps that share nothing with those.
func copied(l []Step) []Step {
	l = slices.Clone(l)
	for i := range l {
		l[i].B = slices.Clone(l[i].B)
	}
	return l
}

// same tells whether they are the same steps, to the byte.
func same(k, l []Step) bool {
	return slices.EqualFunc(k, l, func(x, y Step) bool {
		return x.Kind == y.Kind && x.N == y.N && bytes.Equal(x.B, y.B) && (x.B == nil) == (y.B == nil)
	})
}

// both are a server and a model of it, to which the same is done.
type both struct {
	t *testing.T
	s *serve.Server
	m *model
}

func newBoth(t *testing.T, capacity int) *both {
	t.Helper()
	s := serve.New(capacity)
	if s == nil {
		t.Fatal("no server of", capacity)
	}
	return &both{t, s, &model{capacity: capacity}}
}

// step does a step. What is told has to be what the chapter says, of which the model knows nothing but the requests; the bytes that are given have to stay.
func (b *both) step(x Step) []byte {
	b.t.Helper()
	kept := copied([]Step{x})
	told, ok := Do(b.s, x)
	if !same(kept, []Step{x}) {
		b.t.Fatal("what was given has changed:", kept, x)
	}
	if x.Kind != kindRequest {
		if ok || told != nil {
			b.t.Fatal("no request, and told:", x, told, ok)
		}
		return nil
	}
	want := laidResp(b.m.do(kept[0].B))
	if !ok || !bytes.Equal(told, want) {
		b.t.Fatalf("asked %v: got %v %v, want %v", x, told, ok, want)
	}
	return told
}

// do does the step of a request, and tells the answer.
func (b *both) do(r api.Req) api.Resp {
	b.t.Helper()
	return readResp(b.t, b.step(ask(r)))
}

// get is do of what has to be OK, and tells its value.
func (b *both) get(r api.Req) uint64 {
	b.t.Helper()
	told := b.do(r)
	if told.Code != api.OK {
		b.t.Fatal(r, told)
	}
	return told.Val
}

// steps does them all, and tells the answers.
func (b *both) steps(l []Step) [][]byte {
	b.t.Helper()
	var answers [][]byte
	for _, x := range l {
		if told := b.step(x); told != nil {
			answers = append(answers, told)
		}
	}
	return answers
}

// play runs a script. The answers have to be those of the model, and those of its steps one by one; the steps that are given have to stay.
func play(t *testing.T, capacity int, l []Step) [][]byte {
	t.Helper()
	kept := copied(l)
	told, err := Run(capacity, l)
	if err != nil {
		t.Fatal(capacity, len(l), err)
	}
	if !same(kept, l) {
		t.Fatal("what was given has changed")
	}
	if want := newBoth(t, capacity).steps(kept); !slices.EqualFunc(told, want, bytes.Equal) {
		t.Fatal("not as step by step:", told, want)
	}
	return told
}

// look tells what can be seen: reduced under its order, no more than there may be, with just the handles and functions that the model has.
func (b *both) look() api.Look {
	b.t.Helper()
	l := b.s.Look()
	if len(l.Nums) > b.m.capacity+400 {
		b.t.Fatal("more nodes than there may be:", len(l.Nums))
	}
	fs := reduced(b.t, l)
	at := 0
	for tenant, p := range b.m.people {
		for slot, x := range p.places {
			if !x.held {
				continue
			}
			if at == len(l.Held) {
				b.t.Fatal("held, and not to be seen:", tenant, slot)
			}
			seen := l.Held[at]
			if f, ok := fs[seen.Node]; !ok || f != x.f || seen.Tenant != tenant || seen.Handle != handle(tenant, slot, x.gen) {
				b.t.Fatal("not what is held:", tenant, slot, seen)
			}
			at++
		}
	}
	if at != len(l.Held) {
		b.t.Fatal("not held, and to be seen:", l.Held[at:])
	}
	return l
}

// reduced tells the function of each node and constant, and fails if the nodes aren't reduced, or two are alike, or what is below one is above it in the order.
func reduced(t *testing.T, l api.Look) map[int]table {
	t.Helper()
	level := map[int]int{}
	for at, v := range l.Order {
		level[v] = at
	}
	if len(level) != 8 || slices.Min(l.Order[:]) != 0 || slices.Max(l.Order[:]) != 7 || len(l.Nums) != len(l.Nodes) {
		t.Fatal("no order, or not as many nodes as numbers:", l.Order, len(l.Nums), len(l.Nodes))
	}
	is, alike := map[int]api.Node{}, map[api.Node]bool{}
	for i, n := range l.Nums {
		if n < 2 || i > 0 && n <= l.Nums[i-1] || alike[l.Nodes[i]] || l.Nodes[i].Lo == l.Nodes[i].Hi {
			t.Fatal("numbers that don't rise, or nodes that may not be:", n, l.Nodes[i])
		}
		is[n], alike[l.Nodes[i]] = l.Nodes[i], true
	}
	for n, x := range is {
		for _, below := range []int{x.Lo, x.Hi} {
			y, ok := is[below]
			if below != 0 && below != 1 && (!ok || level[y.Var] <= level[x.Var]) {
				t.Fatal("what may not be below:", n, x, below)
			}
		}
	}
	fs := map[int]table{0: always(false), 1: always(true)}
	var function func(n int) table
	function = func(n int) table {
		if f, ok := fs[n]; ok {
			return f
		}
		x := is[n]
		fs[n] = or(and(variable(x.Var), function(x.Hi)), and(not(variable(x.Var)), function(x.Lo)))
		return fs[n]
	}
	for _, n := range l.Nums {
		function(n)
	}
	return fs
}

// collected tells what is to be seen when the nodes that no handle reaches are gone.
func collected(l api.Look) api.Look {
	is, met := map[int]api.Node{}, map[int]bool{}
	for i, n := range l.Nums {
		is[n] = l.Nodes[i]
	}
	var gather func(n int)
	gather = func(n int) {
		x, ok := is[n]
		if !ok || met[n] {
			return
		}
		met[n] = true
		gather(x.Lo)
		gather(x.Hi)
	}
	for _, h := range l.Held {
		gather(h.Node)
	}
	left := api.Look{Order: l.Order, Held: l.Held}
	for i, n := range l.Nums {
		if met[n] {
			left.Nums = append(left.Nums, n)
			left.Nodes = append(left.Nodes, l.Nodes[i])
		}
	}
	return left
}

// alike tells whether the same is to be seen; lists of none are the same, be they nil or empty.
func alike(k, l api.Look) bool {
	return k.Order == l.Order && slices.Equal(k.Nums, l.Nums) && slices.Equal(k.Nodes, l.Nodes) && slices.Equal(k.Held, l.Held)
}

// handles tells all handles of a tenant, by slots.
func (m *model) handles(tenant int) []uint64 {
	var l []uint64
	for slot, x := range m.people[tenant].places {
		if x.held {
			l = append(l, handle(tenant, slot, x.gen))
		}
	}
	return l
}

// names tells whether an Op names the handle A, B or C.
func names(op int, which string) bool { return strings.Contains(shapes[op], which) }

// plain is the order in which all starts.
var plain = [8]int{0, 1, 2, 3, 4, 5, 6, 7}

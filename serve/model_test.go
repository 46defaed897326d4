package serve

import (
	"bower/api"
	"bytes"
	"encoding/binary"
	"slices"
	"strings"
	"testing"
)

// table is a function row by row.
type table [256]bool

// rows tells the table of what is so in each row.
func rows(f func(x int) bool) table {
	var t table
	for x := range t {
		t[x] = f(x)
	}
	return t
}

func always(b bool) table  { return rows(func(int) bool { return b }) }
func variable(v int) table { return rows(func(x int) bool { return x>>v&1 == 1 }) }
func not(f table) table    { return rows(func(x int) bool { return !f[x] }) }
func and(f, g table) table { return rows(func(x int) bool { return f[x] && g[x] }) }
func or(f, g table) table  { return rows(func(x int) bool { return f[x] || g[x] }) }
func xor(f, g table) table { return rows(func(x int) bool { return f[x] != g[x] }) }
func set(x, v, b int) int  { return x&^(1<<v) | b<<v }
func number(b bool) int {
	if b {
		return 1
	}
	return 0
}
func (f table) dependsOn(v int) bool {
	return f != rows(func(x int) bool { return f[x^1<<v] })
}

// place is one of a tenant's slots.
type place struct {
	held bool
	gen  int
	f    table
}

// person is a tenant.
type person struct {
	there       bool
	quota, cost int
	places      [16]place
}

// part is what a function comes to with the variables ahead of one set, where it depends on that one: a node, in the plain order.
type part struct {
	v    int
	left string
}

// model is a server by the chapter's words, of tables alone.
type model struct {
	capacity int
	people   [9]person
}

// parts has a number for each part that was met, and known has all parts of a function: so each is worked out once for all tests.
var (
	parts = map[part]int{}
	known = map[table][]int{}
)

// partsOf tells the numbers of all parts of f.
func partsOf(f table) []int {
	if l, ok := known[f]; ok {
		return l
	}
	var l []int
	for v := range 8 {
		for ahead := range 1 << v {
			left := make([]byte, 256>>v)
			depends := false
			for y := range left {
				left[y] = byte('0' + number(f[ahead|y<<v]))
				depends = depends || y%2 == 1 && left[y] != left[y-1]
			}
			if !depends {
				continue
			}
			p := part{v, string(left)}
			if _, ok := parts[p]; !ok {
				parts[p] = len(parts)
			}
			l = append(l, parts[p])
		}
	}
	slices.Sort(l)
	l = slices.Compact(l)
	known[f] = l
	return l
}

// sizeOf tells how many nodes functions need, in the plain order.
func sizeOf(l ...table) int {
	met := map[int]bool{}
	for _, f := range l {
		for _, p := range partsOf(f) {
			met[p] = true
		}
	}
	return len(met)
}

// held tells a tenant's functions, by slots.
func (p *person) held() []table {
	var l []table
	for _, x := range p.places {
		if x.held {
			l = append(l, x.f)
		}
	}
	return l
}

// handle is the number of a handle: layer 15.
func handle(tenant, slot, gen int) uint64 {
	return uint64(tenant)<<56 | uint64(slot)<<48 | uint64(gen)
}

// find tells the place that a tenant holds under a handle; nil if it holds none.
func (m *model) find(tenant int, h uint64) *place {
	for i := range m.people[tenant].places {
		if x := &m.people[tenant].places[i]; x.held && handle(tenant, i, x.gen) == h {
			return x
		}
	}
	return nil
}

// letGo is layer 16's: a slot's next generation is one more.
func (x *place) letGo() {
	if x.held {
		*x = place{gen: x.gen + 1}
	}
}

// left tells what of the capacity nobody has.
func (m *model) left() int {
	left := m.capacity
	for _, p := range m.people {
		left -= p.quota
	}
	return left
}

// free tells the least slot that may be held; -1, if there is none.
func (p *person) free() int {
	for i, x := range p.places {
		if !x.held && x.gen <= 15 {
			return i
		}
	}
	return -1
}

// do answers bytes.
func (m *model) do(b []byte) api.Resp {
	r, ok := parse(b)
	if !ok {
		return api.Resp{Code: 1}
	}
	code, val := m.meet(r)
	told := api.Resp{Code: code, Tenant: r.Tenant, Val: val}
	if p := &m.people[r.Tenant]; p.there {
		told.Charge, told.Cost = sizeOf(p.held()...), p.cost
	}
	return told
}

// meet tells the code and the value.
func (m *model) meet(r api.Req) (int, uint64) {
	p := &m.people[r.Tenant]
	if r.Op == 1 {
		switch {
		case p.there:
			return 3, 0
		case r.N > m.left():
			return 4, 0
		}
		p.there, p.quota, p.cost = true, r.N, 0
		return 0, 0
	}
	if !p.there {
		return 2, 0
	}
	var fs []table
	for i, h := range []uint64{r.A, r.B, r.C} {
		if !strings.Contains(shapes[r.Op], "ABC"[i:i+1]) {
			continue
		}
		x := m.find(r.Tenant, h)
		if x == nil {
			return 5, 0
		}
		fs = append(fs, x.f)
	}
	switch r.Op {
	case 2:
		for i := range p.places {
			p.places[i].letGo()
		}
		p.there, p.quota, p.cost = false, 0, 0
		return 0, 0
	case 3, 20:
		m.find(r.Tenant, r.A).letGo()
		if r.Op == 20 {
			p.cost++
		}
		return 0, 0
	case 21:
		return 0, uint64(p.quota)
	}
	p.cost++
	for _, f := range fs {
		p.cost += sizeOf(f)
	}
	if r.Op >= 15 {
		return 0, asked(r, fs)
	}
	f := making(r, fs)
	p.cost += sizeOf(f)
	if sizeOf(append(p.held(), f)...) > p.quota {
		return 6, 0
	}
	slot := p.free()
	if slot < 0 {
		return 7, 0
	}
	p.places[slot].held, p.places[slot].f = true, f
	return 0, handle(r.Tenant, slot, p.places[slot].gen)
}

// making tells the function that a request makes.
func making(r api.Req, fs []table) table {
	switch r.Op {
	case 4:
		return always(r.Bit == 1)
	case 5:
		return variable(r.N)
	case 6:
		return not(fs[0])
	case 7:
		return and(fs[0], fs[1])
	case 8:
		return or(fs[0], fs[1])
	case 9:
		return xor(fs[0], fs[1])
	case 10:
		return or(and(fs[0], fs[1]), and(not(fs[0]), fs[2]))
	case 11:
		return rows(func(x int) bool { return fs[0][set(x, r.N, r.Bit)] })
	case 12:
		return rows(func(x int) bool { return fs[0][set(x, r.N, number(fs[1][x]))] })
	case 13:
		return rows(func(x int) bool { return fs[0][set(x, r.N, 0)] || fs[0][set(x, r.N, 1)] })
	}
	return rows(func(x int) bool { return fs[0][set(x, r.N, 0)] && fs[0][set(x, r.N, 1)] })
}

// asked tells what a request asks.
func asked(r api.Req, fs []table) uint64 {
	val := 0
	switch r.Op {
	case 15:
		val = number(fs[0][r.N])
	case 16:
		for _, b := range fs[0] {
			val += number(b)
		}
	case 17:
		for v := range 8 {
			val += number(fs[0].dependsOn(v)) << v
		}
	case 18:
		val = sizeOf(fs[0])
	case 19:
		val = number(fs[0] == fs[1])
	}
	return uint64(val)
}

// shapes are layer 18's words: of each Op what stands behind Op and Tenant, in order. W is an N of two bytes, N one of one, T is Bit.
var shapes = [22]string{
	1: "W", 2: "", 3: "A", 4: "T", 5: "N", 6: "A", 7: "AB", 8: "AB", 9: "AB", 10: "ABC", 11: "ANT",
	12: "ANB", 13: "AN", 14: "AN", 15: "AN", 16: "A", 17: "A", 18: "A", 19: "AB", 20: "A", 21: "",
}

// laid tells the bytes of a request.
func laid(r api.Req) []byte {
	b := []byte{byte(r.Op), byte(r.Tenant)}
	for _, part := range shapes[r.Op] {
		switch part {
		case 'A':
			b = binary.BigEndian.AppendUint64(b, r.A)
		case 'B':
			b = binary.BigEndian.AppendUint64(b, r.B)
		case 'C':
			b = binary.BigEndian.AppendUint64(b, r.C)
		case 'W':
			b = binary.BigEndian.AppendUint16(b, uint16(r.N))
		case 'N':
			b = append(b, byte(r.N))
		case 'T':
			b = append(b, byte(r.Bit))
		}
	}
	return b
}

// parse tells the request whose bytes b is; false if it is none's.
func parse(b []byte) (api.Req, bool) {
	if len(b) < 2 || b[0] < 1 || b[0] > 21 || b[1] < 1 || b[1] > 8 {
		return api.Req{}, false
	}
	r := api.Req{Op: int(b[0]), Tenant: int(b[1])}
	rest := b[2:]
	for _, part := range shapes[r.Op] {
		width := map[rune]int{'A': 8, 'B': 8, 'C': 8, 'W': 2, 'N': 1, 'T': 1}[part]
		if len(rest) < width {
			return api.Req{}, false
		}
		n := uint64(0)
		for _, x := range rest[:width] {
			n = n<<8 | uint64(x)
		}
		rest = rest[width:]
		switch part {
		case 'A':
			r.A = n
		case 'B':
			r.B = n
		case 'C':
			r.C = n
		case 'W', 'N':
			r.N = int(n)
		case 'T':
			r.Bit = int(n)
		}
	}
	if len(rest) > 0 || r.Bit > 1 || r.N > 7 && r.Op != 1 && r.Op != 15 {
		return api.Req{}, false
	}
	return r, true
}

// laidResp tells the bytes of an answer.
func laidResp(r api.Resp) []byte {
	b := binary.BigEndian.AppendUint64([]byte{byte(r.Code), byte(r.Tenant)}, r.Val)
	return binary.BigEndian.AppendUint64(binary.BigEndian.AppendUint16(b, uint16(r.Charge)), uint64(r.Cost))
}

// readResp tells the answer whose bytes b is.
func readResp(t *testing.T, b []byte) api.Resp {
	t.Helper()
	if len(b) != 20 {
		t.Fatal("no answer's bytes:", b)
	}
	return api.Resp{
		Code:   int(b[0]),
		Tenant: int(b[1]),
		Val:    binary.BigEndian.Uint64(b[2:10]),
		Charge: int(b[10])*256 + int(b[11]),
		Cost:   int(binary.BigEndian.Uint64(b[12:])),
	}
}

// both are a server and a model that are asked alike.
type both struct {
	t *testing.T
	s *Server
	m *model
}

func newBoth(t *testing.T, capacity int) *both {
	t.Helper()
	s := New(capacity)
	if s == nil {
		t.Fatal("no server of", capacity)
	}
	return &both{t, s, &model{capacity: capacity}}
}

// send sends bytes to both; the answers have to be the same bytes, and those that are sent stay.
func (b *both) send(sent []byte) api.Resp {
	b.t.Helper()
	kept := bytes.Clone(sent)
	got := b.s.Do(sent)
	if !bytes.Equal(sent, kept) {
		b.t.Fatal("bytes that were sent have changed:", kept, sent)
	}
	want := b.m.do(kept)
	if !bytes.Equal(got, laidResp(want)) {
		b.t.Fatalf("sent %v: got %v, want %v", sent, readResp(b.t, got), want)
	}
	return want
}

// do sends a request to both.
func (b *both) do(r api.Req) api.Resp {
	b.t.Helper()
	return b.send(laid(r))
}

// get is do of what has to be OK, and tells its value.
func (b *both) get(r api.Req) uint64 {
	b.t.Helper()
	told := b.do(r)
	if told.Code != 0 {
		b.t.Fatal(r, told)
	}
	return told.Val
}

// look tells what can be seen, which has to be as the chapter says.
func (b *both) look() api.Look {
	b.t.Helper()
	l := b.s.Look()
	if len(l.Nums) > b.most() {
		b.t.Fatal("more nodes than there may be:", len(l.Nums))
	}
	fs := reduced(b.t, l)
	var held []api.Held
	for tenant, p := range b.m.people {
		for slot, x := range p.places {
			if !x.held {
				continue
			}
			i := len(held)
			if i >= len(l.Held) {
				b.t.Fatal("held, and not to be seen:", tenant, slot)
			}
			if f, ok := fs[l.Held[i].Node]; !ok || f != x.f {
				b.t.Fatal("another function:", tenant, slot, l.Held[i])
			}
			held = append(held, api.Held{Tenant: tenant, Handle: handle(tenant, slot, x.gen), Node: l.Held[i].Node})
		}
	}
	if !slices.Equal(held, l.Held) {
		b.t.Fatal("held:", l.Held, "want:", held)
	}
	return l
}

// reduced tells the function of each node and constant, and fails if the nodes are not as layer 7 has them.
func reduced(t *testing.T, l api.Look) map[int]table {
	t.Helper()
	level := map[int]int{}
	for at, v := range l.Order {
		level[v] = at
	}
	for v := range 8 {
		if _, ok := level[v]; !ok {
			t.Fatal("no order:", l.Order)
		}
	}
	if len(l.Nums) != len(l.Nodes) {
		t.Fatal("numbers and nodes:", len(l.Nums), len(l.Nodes))
	}
	is, alike := map[int]api.Node{}, map[api.Node]bool{}
	for i, n := range l.Nums {
		if n < 2 || i > 0 && n <= l.Nums[i-1] {
			t.Fatal("numbers don't rise:", l.Nums)
		}
		if alike[l.Nodes[i]] || l.Nodes[i].Lo == l.Nodes[i].Hi {
			t.Fatal("alike:", n, l.Nodes[i])
		}
		is[n], alike[l.Nodes[i]] = l.Nodes[i], true
	}
	for n, x := range is {
		for _, below := range []int{x.Lo, x.Hi} {
			y, ok := is[below]
			if below != 0 && below != 1 && (!ok || level[y.Var] <= level[x.Var]) {
				t.Fatal("what may not be below:", n, x, below)
			}
		}
	}
	fs := map[int]table{0: always(false), 1: always(true)}
	var function func(n int) table
	function = func(n int) table {
		if f, ok := fs[n]; ok {
			return f
		}
		x := is[n]
		lo, hi := function(x.Lo), function(x.Hi)
		fs[n] = rows(func(row int) bool { return row>>x.Var&1 == 1 && hi[row] || row>>x.Var&1 == 0 && lo[row] })
		return fs[n]
	}
	for _, n := range l.Nums {
		function(n)
	}
	return fs
}

// nodes tells the nodes that can be seen by their numbers.
func nodes(l api.Look) map[int]api.Node {
	m := map[int]api.Node{}
	for i, n := range l.Nums {
		m[n] = l.Nodes[i]
	}
	return m
}

// collected tells what there is to be seen when what nobody holds is gone.
func collected(l api.Look) api.Look {
	is, met := nodes(l), map[int]bool{}
	var gather func(n int)
	gather = func(n int) {
		x, ok := is[n]
		if !ok || met[n] {
			return
		}
		met[n] = true
		gather(x.Lo)
		gather(x.Hi)
	}
	for _, h := range l.Held {
		gather(h.Node)
	}
	left := api.Look{Order: l.Order, Held: l.Held}
	for i, n := range l.Nums {
		if met[n] {
			left.Nums = append(left.Nums, n)
			left.Nodes = append(left.Nodes, l.Nodes[i])
		}
	}
	return left
}

// renewed tells what there is to be seen when the store is made anew: in the plain order, from below, by tenants, then by slots.
func (b *both) renewed() api.Look {
	l := api.Look{Order: [8]int{0, 1, 2, 3, 4, 5, 6, 7}}
	nums, known := map[api.Node]int{}, map[table]int{always(false): 0, always(true): 1}
	var build func(v int, f table) int
	build = func(v int, f table) int {
		if n, ok := known[f]; ok {
			return n
		}
		for !f.dependsOn(v) {
			v++
		}
		lo := build(v+1, rows(func(x int) bool { return f[set(x, v, 0)] }))
		hi := build(v+1, rows(func(x int) bool { return f[set(x, v, 1)] }))
		is := api.Node{Var: v, Lo: lo, Hi: hi}
		if _, ok := nums[is]; !ok {
			nums[is] = len(nums) + 2
			l.Nums = append(l.Nums, nums[is])
			l.Nodes = append(l.Nodes, is)
		}
		known[f] = nums[is]
		return nums[is]
	}
	for tenant, p := range b.m.people {
		for slot, x := range p.places {
			if x.held {
				l.Held = append(l.Held, api.Held{Tenant: tenant, Handle: handle(tenant, slot, x.gen), Node: build(0, x.f)})
			}
		}
	}
	return l
}

// alike tells whether the same is to be seen; lists of none are the same, be they nil or empty.
func alike(k, l api.Look) bool {
	return k.Order == l.Order && slices.Equal(k.Nums, l.Nums) && slices.Equal(k.Nodes, l.Nodes) && slices.Equal(k.Held, l.Held)
}

// within tells whether all nodes of k are there in l, under their numbers.
func within(k, l api.Look) bool {
	is := nodes(l)
	for i, n := range k.Nums {
		if x, ok := is[n]; !ok || x != k.Nodes[i] {
			return false
		}
	}
	return true
}

// below gathers the functions of all nodes that f needs in an order, from a level on.
func below(met map[table]bool, order [8]int, level int, f table) {
	for level < 8 && !f.dependsOn(order[level]) {
		level++
	}
	if level == 8 || met[f] {
		return
	}
	met[f] = true
	for b := range 2 {
		below(met, order, level+1, rows(func(x int) bool { return f[set(x, order[level], b)] }))
	}
}

// steps tells the functions that are made on the way to what a request makes, and that one: layers 10 and 11.
func (b *both) steps(r api.Req) []table {
	var fs []table
	for i, h := range []uint64{r.A, r.B, r.C} {
		if names(r.Op, i) {
			fs = append(fs, b.m.find(r.Tenant, h).f)
		}
	}
	l := []table{making(r, fs)}
	switch r.Op {
	case 9:
		l = append(l, not(fs[1]))
	case 12, 13, 14:
		for bit := range 2 {
			l = append(l, rows(func(x int) bool { return fs[0][set(x, r.N, bit)] }))
		}
	}
	return l
}

// most is how many nodes there may be.
func (b *both) most() int { return b.m.capacity + 400 }

// watch sends bytes to both, and looks ahead and behind: what the store comes to has to be what the chapter says.
func (b *both) watch(sent []byte) api.Resp {
	b.t.Helper()
	ahead, renewed := b.look(), b.renewed()
	told := b.send(sent)
	behind := b.look()
	r, _ := parse(sent)
	if told.Code == 0 && r.Op >= 4 && r.Op <= 14 {
		b.made(r, ahead, renewed, behind)
		return told
	}
	lets := told.Code == 0 && (r.Op == 2 || r.Op == 3 || r.Op == 20)
	if !lets && !alike(ahead, behind) {
		b.t.Fatal("what can be seen has changed:", r, told)
	}
	ahead.Held = behind.Held
	if !alike(ahead, behind) {
		b.t.Fatal("the store has changed:", r, told)
	}
	return told
}

// made holds what there is to be seen behind a request that made a function against the chapter's words: first there was room, and then it was made, and nothing else.
func (b *both) made(r api.Req, ahead, renewed, behind api.Look) {
	b.t.Helper()
	left := ahead
	if b.most()-len(left.Nums) < 231 {
		left = collected(left)
		collects++
	}
	if b.most()-len(left.Nums) < 231 {
		left = renewed
		renews++
	}
	if behind.Order != left.Order || !within(left, behind) {
		b.t.Fatal("not what was to be left:", r)
	}
	stays, needed := nodes(left), map[table]bool{}
	for _, f := range b.steps(r) {
		below(needed, left.Order, 0, f)
	}
	for n, f := range reduced(b.t, behind) {
		if _, ok := stays[n]; !ok && n > 1 && !needed[f] {
			b.t.Fatal("a node that nobody needs:", r, n)
		}
	}
	if many := len(behind.Nums) - len(left.Nums); many > 231 {
		b.t.Fatal("more in one step than may be:", r, many)
	}
	kept := map[uint64]int{}
	for _, h := range left.Held {
		kept[h.Handle] = h.Node
	}
	for _, h := range behind.Held {
		if n, ok := kept[h.Handle]; ok && n != h.Node {
			b.t.Fatal("another node:", r, h)
		}
	}
}

// collects and renews are how often room had to be made, in all tests: so one can tell that its case came up.
var collects, renews int

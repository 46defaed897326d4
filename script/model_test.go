package script

import (
	"bower/api"
	"encoding/binary"
	"slices"
	"strings"
	"testing"
)

// table is a function row by row.
type table [256]bool

// rows tells the table of what is so in each row.
func rows(f func(x int) bool) table {
	var t table
	for x := range t {
		t[x] = f(x)
	}
	return t
}

func always(b bool) table  { return rows(func(int) bool { return b }) }
func variable(v int) table { return rows(func(x int) bool { return x>>v&1 == 1 }) }
func not(f table) table    { return rows(func(x int) bool { return !f[x] }) }
func and(f, g table) table { return rows(func(x int) bool { return f[x] && g[x] }) }
func or(f, g table) table  { return rows(func(x int) bool { return f[x] || g[x] }) }
func xor(f, g table) table { return rows(func(x int) bool { return f[x] != g[x] }) }
func set(x, v, b int) int  { return x&^(1<<v) | b<<v }
func number(b bool) int {
	if b {
		return 1
	}
	return 0
}
func (f table) dependsOn(v int) bool {
	return f != rows(func(x int) bool { return f[x^1<<v] })
}

// place is one of a tenant's slots.
type place struct {
	held bool
	gen  int
	f    table
}

// person is a tenant.
type person struct {
	there       bool
	quota, cost int
	places      [16]place
}

// part is what a function comes to with the variables ahead of one set, where it depends on that one: a node, in the plain order.
type part struct {
	v    int
	left string
}

// model is a server by the chapter's words, of tables alone.
type model struct {
	capacity int
	people   [9]person
}

// parts has a number for each part that was met, and known has all parts of a function: so each is worked out once for all tests.
var (
	parts = map[part]int{}
	known = map[table][]int{}
)

// partsOf tells the numbers of all parts of f.
func partsOf(f table) []int {
	if l, ok := known[f]; ok {
		return l
	}
	var l []int
	for v := range 8 {
		for ahead := range 1 << v {
			left := make([]byte, 256>>v)
			depends := false
			for y := range left {
				left[y] = byte('0' + number(f[ahead|y<<v]))
				depends = depends || y%2 == 1 && left[y] != left[y-1]
			}
			if !depends {
				continue
			}
			p := part{v, string(left)}
			if _, ok := parts[p]; !ok {
				parts[p] = len(parts)
			}
			l = append(l, parts[p])
		}
	}
	slices.Sort(l)
	l = slices.Compact(l)
	known[f] = l
	return l
}

// sizeOf tells how many nodes functions need, in the plain order.
func sizeOf(l ...table) int {
	met := map[int]bool{}
	for _, f := range l {
		for _, p := range partsOf(f) {
			met[p] = true
		}
	}
	return len(met)
}

// held tells a tenant's functions, by slots.
func (p *person) held() []table {
	var l []table
	for _, x := range p.places {
		if x.held {
			l = append(l, x.f)
		}
	}
	return l
}

// handle is the number of a handle: layer 15.
func handle(tenant, slot, gen int) uint64 {
	return uint64(tenant)<<56 | uint64(slot)<<48 | uint64(gen)
}

// find tells the place that a tenant holds under a handle; nil if it holds none.
func (m *model) find(tenant int, h uint64) *place {
	for i := range m.people[tenant].places {
		if x := &m.people[tenant].places[i]; x.held && handle(tenant, i, x.gen) == h {
			return x
		}
	}
	return nil
}

// letGo is layer 16's: a slot's next generation is one more.
func (x *place) letGo() {
	if x.held {
		*x = place{gen: x.gen + 1}
	}
}

// left tells what of the capacity nobody has.
func (m *model) left() int {
	left := m.capacity
	for _, p := range m.people {
		left -= p.quota
	}
	return left
}

// free tells the least slot that may be held; -1, if there is none.
func (p *person) free() int {
	for i, x := range p.places {
		if !x.held && x.gen <= 15 {
			return i
		}
	}
	return -1
}

// do answers bytes.
func (m *model) do(b []byte) api.Resp {
	r, ok := parse(b)
	if !ok {
		return api.Resp{Code: 1}
	}
	code, val := m.meet(r)
	told := api.Resp{Code: code, Tenant: r.Tenant, Val: val}
	if p := &m.people[r.Tenant]; p.there {
		told.Charge, told.Cost = sizeOf(p.held()...), p.cost
	}
	return told
}

// meet tells the code and the value.
func (m *model) meet(r api.Req) (int, uint64) {
	p := &m.people[r.Tenant]
	if r.Op == 1 {
		switch {
		case p.there:
			return 3, 0
		case r.N > m.left():
			return 4, 0
		}
		p.there, p.quota, p.cost = true, r.N, 0
		return 0, 0
	}
	if !p.there {
		return 2, 0
	}
	var fs []table
	for i, h := range []uint64{r.A, r.B, r.C} {
		if !strings.Contains(shapes[r.Op], "ABC"[i:i+1]) {
			continue
		}
		x := m.find(r.Tenant, h)
		if x == nil {
			return 5, 0
		}
		fs = append(fs, x.f)
	}
	switch r.Op {
	case 2:
		for i := range p.places {
			p.places[i].letGo()
		}
		p.there, p.quota, p.cost = false, 0, 0
		return 0, 0
	case 3, 20:
		m.find(r.Tenant, r.A).letGo()
		if r.Op == 20 {
			p.cost++
		}
		return 0, 0
	case 21:
		return 0, uint64(p.quota)
	}
	p.cost++
	for _, f := range fs {
		p.cost += sizeOf(f)
	}
	if r.Op >= 15 {
		return 0, asked(r, fs)
	}
	f := making(r, fs)
	p.cost += sizeOf(f)
	if sizeOf(append(p.held(), f)...) > p.quota {
		return 6, 0
	}
	slot := p.free()
	if slot < 0 {
		return 7, 0
	}
	p.places[slot].held, p.places[slot].f = true, f
	return 0, handle(r.Tenant, slot, p.places[slot].gen)
}

// making tells the function that a request makes.
func making(r api.Req, fs []table) table {
	switch r.Op {
	case 4:
		return always(r.Bit == 1)
	case 5:
		return variable(r.N)
	case 6:
		return not(fs[0])
	case 7:
		return and(fs[0], fs[1])
	case 8:
		return or(fs[0], fs[1])
	case 9:
		return xor(fs[0], fs[1])
	case 10:
		return or(and(fs[0], fs[1]), and(not(fs[0]), fs[2]))
	case 11:
		return rows(func(x int) bool { return fs[0][set(x, r.N, r.Bit)] })
	case 12:
		return rows(func(x int) bool { return fs[0][set(x, r.N, number(fs[1][x]))] })
	case 13:
		return rows(func(x int) bool { return fs[0][set(x, r.N, 0)] || fs[0][set(x, r.N, 1)] })
	}
	return rows(func(x int) bool { return fs[0][set(x, r.N, 0)] && fs[0][set(x, r.N, 1)] })
}

// asked tells what a request asks.
func asked(r api.Req, fs []table) uint64 {
	val := 0
	switch r.Op {
	case 15:
		val = number(fs[0][r.N])
	case 16:
		for _, b := range fs[0] {
			val += number(b)
		}
	case 17:
		for v := range 8 {
			val += number(fs[0].dependsOn(v)) << v
		}
	case 18:
		val = sizeOf(fs[0])
	case 19:
		val = number(fs[0] == fs[1])
	}
	return uint64(val)
}

// shapes are layer 18's words: of each Op what stands behind Op and Tenant, in order. W is an N of two bytes, N one of one, T is Bit.
var shapes = [22]string{
	1: "W", 2: "", 3: "A", 4: "T", 5: "N", 6: "A", 7: "AB", 8: "AB", 9: "AB", 10: "ABC", 11: "ANT",
	12: "ANB", 13: "AN", 14: "AN", 15: "AN", 16: "A", 17: "A", 18: "A", 19: "AB", 20: "A", 21: "",
}

// laid tells the bytes of a request.
func laid(r api.Req) []byte {
	b := []byte{byte(r.Op), byte(r.Tenant)}
	for _, part := range shapes[r.Op] {
		switch part {
		case 'A':
			b = binary.BigEndian.AppendUint64(b, r.A)
		case 'B':
			b = binary.BigEndian.AppendUint64(b, r.B)
		case 'C':
			b = binary.BigEndian.AppendUint64(b, r.C)
		case 'W':
			b = binary.BigEndian.AppendUint16(b, uint16(r.N))
		case 'N':
			b = append(b, byte(r.N))
		case 'T':
			b = append(b, byte(r.Bit))
		}
	}
	return b
}

// parse tells the request whose bytes b is; false if it is none's.
func parse(b []byte) (api.Req, bool) {
	if len(b) < 2 || b[0] < 1 || b[0] > 21 || b[1] < 1 || b[1] > 8 {
		return api.Req{}, false
	}
	r := api.Req{Op: int(b[0]), Tenant: int(b[1])}
	rest := b[2:]
	for _, part := range shapes[r.Op] {
		width := map[rune]int{'A': 8, 'B': 8, 'C': 8, 'W': 2, 'N': 1, 'T': 1}[part]
		if len(rest) < width {
			return api.Req{}, false
		}
		n := uint64(0)
		for _, x := range rest[:width] {
			n = n<<8 | uint64(x)
		}
		rest = rest[width:]
		switch part {
		case 'A':
			r.A = n
		case 'B':
			r.B = n
		case 'C':
			r.C = n
		case 'W', 'N':
			r.N = int(n)
		case 'T':
			r.Bit = int(n)
		}
	}
	if len(rest) > 0 || r.Bit > 1 || r.N > 7 && r.Op != 1 && r.Op != 15 {
		return api.Req{}, false
	}
	return r, true
}

// laidResp tells the bytes of an answer.
func laidResp(r api.Resp) []byte {
	b := binary.BigEndian.AppendUint64([]byte{byte(r.Code), byte(r.Tenant)}, r.Val)
	return binary.BigEndian.AppendUint64(binary.BigEndian.AppendUint16(b, uint16(r.Charge)), uint64(r.Cost))
}

// readResp tells the answer whose bytes b is.
func readResp(t *testing.T, b []byte) api.Resp {
	t.Helper()
	if len(b) != 20 {
		t.Fatal("no answer's bytes:", b)
	}
	return api.Resp{
		Code:   int(b[0]),
		Tenant: int(b[1]),
		Val:    binary.BigEndian.Uint64(b[2:10]),
		Charge: int(b[10])*256 + int(b[11]),
		Cost:   int(binary.BigEndian.Uint64(b[12:])),
	}
}

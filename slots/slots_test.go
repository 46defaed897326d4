package slots

import (
	"bower/api"
	"encoding/binary"
	"math"
	"math/rand"
	"slices"
	"testing"
)

// many is how many slots a tenant has, and turns how often one may be held: under the generations 0 to 15.
const (
	many  = 16
	turns = 16
)

// values are some that may be, at the corners and within.
var values = []int{0, 1, -1, 7, -7, 255, 256, 1 << 31, -1 << 31, 1 << 32, math.MaxInt, math.MinInt, math.MaxInt - 1, math.MinInt + 1}

// notTenants are numbers of no tenant: the nearest, those that come to a tenant if they are cut, wrap or lose their sign, the farthest.
var notTenants = []int{0, -1, -2, -7, -8, -9, 9, 10, 16, 255, 256, 257, 264, -248, -255, -256, 1<<16 + 1, 1<<31 + 1, 1<<32 + 1, 1<<32 + 8, -1<<32 + 1, 1<<56 + 1, math.MaxInt32, math.MinInt32, math.MaxInt, math.MaxInt - 1, math.MinInt, math.MinInt + 1, math.MinInt + 8}

// number is a handle's number, laid out byte by byte, the highest first.
func number(tenant, slot, gen int) uint64 {
	return binary.BigEndian.Uint64([]byte{byte(tenant), byte(slot), 0, 0, 0, 0, 0, byte(gen)})
}

// strange are numbers that are no handle's of any tenant.
func strange() []uint64 {
	return []uint64{
		0, 1, 15, 255, 1 << 48, 15<<48 + 15, 1<<56 - 1, 1<<64 - 1, 1 << 63, 1<<63 - 1,
		number(0, 3, 3), number(9, 0, 0), number(9, 15, 15), number(255, 0, 0), number(129, 0, 0),
		number(1, 16, 0), number(8, 16, 15), number(2, 255, 0), number(1, 128, 0),
		number(1, 0, 16), number(8, 15, 16), number(2, 0, 255), number(1, 0, 128),
		number(1, 0, 0) + 1<<8, number(2, 3, 0) + 1<<47, number(8, 15, 15) + 1<<20, number(4, 0, 0) + (1<<48 - 1<<8),
	}
}

// model is the chapter's words: how often each slot was let go, and of those that are held their values.
type model struct {
	tenant int
	gone   [many]int
	held   map[int]int
}

func newModel(tenant int) *model {
	return &model{tenant: tenant, held: map[int]int{}}
}

// free tells the least slot that isn't held, and may be; many, if there is none.
func (m *model) free() int {
	for slot := range many {
		if _, held := m.held[slot]; !held && m.gone[slot] < turns {
			return slot
		}
	}
	return many
}

func (m *model) grant(val int) (uint64, error) {
	slot := m.free()
	if slot == many {
		return 0, api.ErrSlot
	}
	m.held[slot] = val
	return number(m.tenant, slot, m.gone[slot]), nil
}

// find looks through all that is held for h; -1, if it isn't there.
func (m *model) find(h uint64) int {
	for slot := range m.held {
		if number(m.tenant, slot, m.gone[slot]) == h {
			return slot
		}
	}
	return -1
}

func (m *model) get(h uint64) (int, error) {
	slot := m.find(h)
	if slot < 0 {
		return 0, api.ErrHandle
	}
	return m.held[slot], nil
}

func (m *model) release(h uint64) error {
	slot := m.find(h)
	if slot < 0 {
		return api.ErrHandle
	}
	m.letGo(slot)
	return nil
}

func (m *model) letGo(slot int) {
	delete(m.held, slot)
	m.gone[slot]++
}

func (m *model) clear() {
	for slot := range many {
		if _, held := m.held[slot]; held {
			m.letGo(slot)
		}
	}
}

// list tells the values and the handles of all that is held, by the slots' numbers.
func (m *model) list() ([]int, []uint64) {
	var vals []int
	var handles []uint64
	for slot := range many {
		if val, held := m.held[slot]; held {
			vals = append(vals, val)
			handles = append(handles, number(m.tenant, slot, m.gone[slot]))
		}
	}
	return vals, handles
}

func (m *model) lay(vals []int) error {
	if len(vals) != len(m.held) {
		return api.ErrArg
	}
	for slot := range many {
		if _, held := m.held[slot]; held {
			m.held[slot], vals = vals[0], vals[1:]
		}
	}
	return nil
}

// pair is a Slots and its model, to be asked the same.
type pair struct {
	s *Slots
	m *model
}

func newPair(t *testing.T, tenant int) pair {
	t.Helper()
	s := New(tenant)
	if s == nil {
		t.Fatalf("there are no slots of tenant %d", tenant)
	}
	return pair{s, newModel(tenant)}
}

func (p pair) grant(t *testing.T, val int) uint64 {
	t.Helper()
	h, err := p.s.Grant(val)
	want, wantErr := p.m.grant(val)
	if h != want || err != wantErr {
		t.Fatalf("tenant %d: Grant(%d) tells %#x, %v, not %#x, %v", p.m.tenant, val, h, err, want, wantErr)
	}
	return h
}

func (p pair) get(t *testing.T, h uint64) {
	t.Helper()
	val, err := p.s.Get(h)
	want, wantErr := p.m.get(h)
	if val != want || err != wantErr {
		t.Fatalf("tenant %d: Get(%#x) tells %d, %v, not %d, %v", p.m.tenant, h, val, err, want, wantErr)
	}
}

func (p pair) release(t *testing.T, h uint64) {
	t.Helper()
	if err, want := p.s.Release(h), p.m.release(h); err != want {
		t.Fatalf("tenant %d: Release(%#x) tells %v, not %v", p.m.tenant, h, err, want)
	}
}

func (p pair) clear() {
	p.s.Clear()
	p.m.clear()
}

func (p pair) lay(t *testing.T, vals []int) {
	t.Helper()
	if err, want := p.s.Lay(vals), p.m.lay(vals); err != want {
		t.Fatalf("tenant %d: Lay of %d tells %v, not %v", p.m.tenant, len(vals), err, want)
	}
}

// grantAll grants till there is no slot.
func (p pair) grantAll(t *testing.T) {
	t.Helper()
	for p.m.free() < many {
		p.grant(t, values[p.m.free()%len(values)])
	}
}

// handle is the handle under which a slot is held now, or under which it will be held next.
func (p pair) handle(slot int) uint64 {
	return number(p.m.tenant, slot, p.m.gone[slot])
}

// lists holds Free, Vals and Handles against the model.
func (p pair) lists(t *testing.T) {
	t.Helper()
	if free := p.s.Free(); free != (p.m.free() < many) {
		t.Fatalf("tenant %d: Free tells %v", p.m.tenant, free)
	}
	vals, handles := p.m.list()
	if got := p.s.Vals(); !slices.Equal(got, vals) {
		t.Fatalf("tenant %d: Vals tells %v, not %v", p.m.tenant, got, vals)
	}
	if got := p.s.Handles(); !slices.Equal(got, handles) {
		t.Fatalf("tenant %d: Handles tells %#x, not %#x", p.m.tenant, got, handles)
	}
}

// look holds all that can be asked against the model: the lists, and Get of each handle that the tenant may ever have.
func (p pair) look(t *testing.T) {
	t.Helper()
	p.lists(t)
	for slot := range many {
		for gen := range turns {
			p.get(t, number(p.m.tenant, slot, gen))
		}
	}
}

// end looks, and then uses up all slots, by which each one's generation is seen, of those that weren't held, too.
func (p pair) end(t *testing.T) {
	t.Helper()
	p.look(t)
	for p.m.free() < many {
		p.grantAll(t)
		p.look(t)
		p.clear()
	}
	p.look(t)
	p.grant(t, 1)
	p.look(t)
}

// P16.1: the tenants 1 to 8 have slots, none of them held; no other has.
func TestNew(t *testing.T) {
	for tenant := 1; tenant <= 8; tenant++ {
		p := newPair(t, tenant)
		if !p.s.Free() || len(p.s.Vals()) != 0 || len(p.s.Handles()) != 0 {
			t.Errorf("tenant %d has handles at first", tenant)
		}
		p.end(t)
	}
	for _, tenant := range notTenants {
		if New(tenant) != nil {
			t.Errorf("there are slots of tenant %d", tenant)
		}
	}
	for tenant := -1000; tenant <= 1000; tenant++ {
		if is := New(tenant) != nil; is != (1 <= tenant && tenant <= 8) {
			t.Errorf("there are slots of tenant %d: %v", tenant, is)
		}
	}
}

// P16.1, P16.2: the chapter's example, with the numbers written out.
func TestExample(t *testing.T) {
	s := New(2)
	h, err := s.Grant(9)
	if h != 0x0200000000000000 || err != nil {
		t.Errorf("the first Grant tells %#x, %v", h, err)
	}
	if err := s.Release(h); err != nil {
		t.Errorf("Release tells %v", err)
	}
	if h, err := s.Grant(9); h != 0x0200000000000001 || err != nil {
		t.Errorf("the second Grant tells %#x, %v", h, err)
	}
	if h, err := s.Grant(9); h != 0x0201000000000000 || err != nil {
		t.Errorf("the third Grant tells %#x, %v", h, err)
	}
}

// P16.1, P16.4: where none, one, all but one and all are held: the slots in turn, and then none.
func TestGrantAll(t *testing.T) {
	for tenant := 1; tenant <= 8; tenant++ {
		p := newPair(t, tenant)
		for slot := range many {
			if !p.s.Free() {
				t.Fatalf("with %d held none is free", slot)
			}
			if h := p.grant(t, 100+slot); h != number(tenant, slot, 0) {
				t.Fatalf("with %d held Grant tells %#x", slot, h)
			}
			p.look(t)
		}
		for range 3 {
			if h, err := p.s.Grant(5); h != 0 || err != api.ErrSlot || p.s.Free() {
				t.Fatalf("with all held Grant tells %#x, %v", h, err)
			}
			p.look(t)
		}
		p.end(t)
	}
}

// P16.1: the least slot that may be held, where any of the slots were let go, be they further down or up.
func TestGrantLeast(t *testing.T) {
	for gone := 1; gone < 1<<many; gone += 1 + gone%7*37 {
		p := newPair(t, 3)
		p.grantAll(t)
		for slot := range many {
			if gone>>slot&1 == 1 {
				p.release(t, number(3, slot, 0))
			}
		}
		p.lists(t)
		for slot := range many {
			if gone>>slot&1 == 0 {
				continue
			}
			if h := p.grant(t, slot); h != number(3, slot, 1) {
				t.Fatalf("with %b gone %#x is granted for slot %d", gone, h, slot)
			}
			p.lists(t)
		}
		if h, err := p.s.Grant(1); h != 0 || err != api.ErrSlot {
			t.Fatalf("with all held again Grant tells %#x, %v", h, err)
		}
	}
}

// P16.1: with just some held, the last that was let go isn't the next one, if one further down is free.
func TestGrantLeastOfSome(t *testing.T) {
	p := newPair(t, 5)
	for range 6 {
		p.grant(t, 1)
	}
	p.release(t, number(5, 1, 0))
	p.release(t, number(5, 4, 0))
	p.release(t, number(5, 3, 0))
	for _, want := range []uint64{number(5, 1, 1), number(5, 3, 1), number(5, 4, 1), number(5, 6, 0)} {
		if h := p.grant(t, 2); h != want {
			t.Errorf("Grant tells %#x, not %#x", h, want)
		}
	}
	p.end(t)
}

// P16.1, P16.5: a slot that is let go sixteen times is never held again; the others are.
func TestRetired(t *testing.T) {
	for slot := range many {
		p := newPair(t, 4)
		for n := range slot {
			p.grant(t, n)
		}
		for gen := range turns {
			h := p.grant(t, 1000+gen)
			if h != number(4, slot, gen) {
				t.Fatalf("slot %d is granted as %#x for the generation %d", slot, h, gen)
			}
			p.release(t, h)
			p.get(t, h)
		}
		p.look(t)
		if slot == many-1 {
			if p.s.Free() {
				t.Errorf("slot %d is free behind its last generation", slot)
			}
			p.grant(t, 1)
		} else if h := p.grant(t, 1); h != number(4, slot+1, 0) {
			t.Errorf("behind slot %d's last generation %#x is granted", slot, h)
		}
		p.clear()
		p.end(t)
	}
}

// P16.1, P16.2: a slot is retired likewise, be it Release or Clear that lets it go.
func TestRetiredByClear(t *testing.T) {
	p := newPair(t, 7)
	for turn := range turns {
		if h := p.grant(t, turn); h != number(7, 0, turn) {
			t.Fatalf("%#x is granted at turn %d", h, turn)
		}
		if turn%3 == 0 {
			p.release(t, number(7, 0, turn))
		}
		p.clear()
		p.look(t)
	}
	if h := p.grant(t, 1); h != number(7, 1, 0) {
		t.Errorf("behind slot 0's last generation %#x is granted", h)
	}
	p.end(t)
}

// P16.1, P16.4, P16.5: all slots let go sixteen times: there is none any more, whatever is called, and all 256 handles were unlike.
func TestAllRetired(t *testing.T) {
	for tenant := 1; tenant <= 8; tenant++ {
		p := newPair(t, tenant)
		seen := map[uint64]bool{}
		for i := range many * turns {
			h := p.grant(t, i)
			if seen[h] || h != number(tenant, i/turns, i%turns) {
				t.Fatalf("Grant %d tells %#x", i, h)
			}
			seen[h] = true
			p.release(t, h)
		}
		for range 3 {
			if h, err := p.s.Grant(0); h != 0 || err != api.ErrSlot || p.s.Free() {
				t.Fatalf("behind all Grant tells %#x, %v", h, err)
			}
			for h := range seen {
				if val, err := p.s.Get(h); val != 0 || err != api.ErrHandle || p.s.Release(h) != api.ErrHandle {
					t.Fatalf("behind all Get(%#x) tells %d, %v", h, val, err)
				}
			}
			p.clear()
			p.lay(t, nil)
			p.lay(t, []int{1})
			p.look(t)
		}
	}
}

// P16.1, P16.2: the last generation is held as any other is, alone and with all other slots in it.
func TestLastGeneration(t *testing.T) {
	p := newPair(t, 8)
	for range turns - 1 {
		p.grantAll(t)
		p.clear()
	}
	p.grantAll(t)
	for slot := range many {
		h := number(8, slot, 15)
		if val, err := p.s.Get(h); val != values[slot%len(values)] || err != nil {
			t.Errorf("Get(%#x) tells %d, %v", h, val, err)
		}
	}
	p.look(t)
	for slot := range many {
		p.release(t, number(8, slot, 15))
		p.release(t, number(8, slot, 16))
		p.get(t, number(8, slot, 16))
		p.look(t)
		if p.s.Free() {
			t.Fatalf("slot %d is free behind its last generation", slot)
		}
	}
}

// P16.1, P16.2, P16.3: values may be any numbers, also 0, below 0, the least and the greatest, and alike.
func TestValues(t *testing.T) {
	for _, val := range values {
		p := newPair(t, 1)
		h := p.grant(t, val)
		if got, err := p.s.Get(h); got != val || err != nil {
			t.Errorf("Get tells %d, %v, not %d", got, err, val)
		}
		other := p.grant(t, val)
		if got := p.s.Vals(); !slices.Equal(got, []int{val, val}) {
			t.Errorf("Vals tells %v", got)
		}
		for _, next := range values {
			p.lay(t, []int{next, val})
			p.look(t)
			p.lay(t, []int{val, next})
			p.look(t)
		}
		p.release(t, other)
		p.look(t)
		p.release(t, h)
		p.grant(t, ^val)
		p.end(t)
	}
}

// P16.2: a handle that is held, that was let go, and whose slot is held again under the next generation.
func TestGetAndReleaseAgain(t *testing.T) {
	for slot := range many {
		p := newPair(t, 6)
		for n := range slot {
			p.grant(t, -n)
		}
		var old []uint64
		for gen := range turns {
			h := p.grant(t, 50+gen)
			if val, err := p.s.Get(h); val != 50+gen || err != nil {
				t.Fatalf("Get(%#x) tells %d, %v", h, val, err)
			}
			for _, gone := range old {
				if val, err := p.s.Get(gone); val != 0 || err != api.ErrHandle || p.s.Release(gone) != api.ErrHandle {
					t.Fatalf("Get(%#x), which was let go, tells %d, %v", gone, val, err)
				}
			}
			p.look(t)
			if err := p.s.Release(h); err != nil {
				t.Fatalf("Release(%#x) tells %v", h, err)
			}
			p.m.release(h)
			for range 2 {
				if val, err := p.s.Get(h); val != 0 || err != api.ErrHandle || p.s.Release(h) != api.ErrHandle {
					t.Fatalf("Get(%#x), which was let go, tells %d, %v", h, val, err)
				}
				p.lists(t)
			}
			old = append(old, h)
		}
		p.end(t)
	}
}

// refused holds that h isn't held, and that neither Get nor Release of it changes anything.
func (p pair) refused(t *testing.T, h uint64) {
	t.Helper()
	if val, err := p.s.Get(h); val != 0 || err != api.ErrHandle {
		t.Fatalf("tenant %d: Get(%#x) tells %d, %v", p.m.tenant, h, val, err)
	}
	if err := p.s.Release(h); err != api.ErrHandle {
		t.Fatalf("tenant %d: Release(%#x) tells %v", p.m.tenant, h, err)
	}
	p.lists(t)
}

// stages are slots with none held, some, all, and all but some behind others' generations.
func stages(t *testing.T, tenant int) []pair {
	none, some, full, mixed := newPair(t, tenant), newPair(t, tenant), newPair(t, tenant), newPair(t, tenant)
	for n := range 5 {
		some.grant(t, 10+n)
	}
	some.release(t, number(tenant, 2, 0))
	full.grantAll(t)
	for n := range 7 {
		mixed.grantAll(t)
		for slot := range n {
			mixed.release(t, mixed.handle(slot))
		}
	}
	mixed.grant(t, 3)
	return []pair{none, some, full, mixed}
}

// P16.2, P16.4: the handles of all other tenants.
func TestOtherTenants(t *testing.T) {
	for tenant := 1; tenant <= 8; tenant++ {
		for _, p := range stages(t, tenant) {
			for other := 1; other <= 8; other++ {
				if other == tenant {
					continue
				}
				for slot := range many {
					for gen := range turns {
						p.refused(t, number(other, slot, gen))
					}
				}
			}
			p.end(t)
		}
	}
}

// P16.2, P16.4: slots that were never held, under each generation, and generations to come of those that are held, and that were.
func TestNotYet(t *testing.T) {
	p := newPair(t, 2)
	h := p.grant(t, 4)
	p.grant(t, 5)
	p.release(t, h)
	for slot := 2; slot < many; slot++ {
		for gen := range turns {
			p.refused(t, number(2, slot, gen))
		}
	}
	for gen := 1; gen < turns; gen++ {
		p.refused(t, number(2, 0, gen))
		p.refused(t, number(2, 1, gen))
	}
	p.get(t, number(2, 1, 0))
	p.end(t)
}

// P16.2, P16.4, P1: what is no handle's number.
func TestNoHandles(t *testing.T) {
	for tenant := 1; tenant <= 8; tenant++ {
		for _, p := range stages(t, tenant) {
			for _, h := range strange() {
				p.refused(t, h)
			}
			p.look(t)
			for slot := range many {
				for gen := 16; gen < 256; gen++ {
					p.refused(t, number(tenant, slot, gen))
				}
			}
			for slot := many; slot < 256; slot++ {
				p.refused(t, number(tenant, slot, 0))
				p.refused(t, number(tenant, slot, slot%turns))
			}
			p.end(t)
		}
	}
}

// P16.2, P16.4: any one bit of a handle turned: no handle at all, where none else is held.
func TestTurnedAlone(t *testing.T) {
	for slot := range many {
		for gen := range turns {
			p := newPair(t, 5)
			for range gen {
				p.grantAll(t)
				p.clear()
			}
			p.grantAll(t)
			h := number(5, slot, gen)
			for n := range many {
				if n != slot {
					p.release(t, number(5, n, gen))
				}
			}
			for bit := range 64 {
				p.refused(t, h^1<<bit)
				p.get(t, h)
			}
			p.release(t, h)
			p.refused(t, h)
		}
	}
}

// P16.2, P16.4: any one bit of a handle turned, where others are held: another's handle, or none.
func TestTurnedAmongOthers(t *testing.T) {
	for tenant := 1; tenant <= 8; tenant++ {
		for _, p := range stages(t, tenant) {
			for slot := range many {
				h := p.handle(slot)
				for bit := range 64 {
					p.get(t, h^1<<bit)
					if p.m.find(h^1<<bit) < 0 {
						p.refused(t, h^1<<bit)
					}
				}
			}
			for slot := range many {
				for bit := range 64 {
					p.release(t, p.handle(slot)^1<<bit)
				}
			}
			p.end(t)
		}
	}
}

// P16.2: all are let go, where none, some and all are held: of just these the generation is one more.
func TestClear(t *testing.T) {
	for held := 0; held < 1<<many; held += 1 + held%5*53 {
		p := newPair(t, 1)
		p.grantAll(t)
		for slot := range many {
			if held>>slot&1 == 0 {
				p.release(t, number(1, slot, 0))
			}
		}
		before := p.s.Handles()
		p.clear()
		if len(p.s.Vals()) != 0 || len(p.s.Handles()) != 0 || !p.s.Free() {
			t.Fatalf("behind Clear there are %#x", p.s.Handles())
		}
		for _, h := range before {
			p.refused(t, h)
		}
		p.clear()
		p.lists(t)
		for slot := range many {
			if h := p.grant(t, slot); h != number(1, slot, 1) {
				t.Fatalf("behind Clear with %b held %#x is granted for slot %d", held, h, slot)
			}
		}
	}
}

// P16.2: Clear of slots that were never held leaves their generation at 0, however often; with it those that are held get one more each.
func TestClearOfUnlike(t *testing.T) {
	p := newPair(t, 3)
	for range 20 {
		p.clear()
	}
	if h := p.grant(t, 1); h != number(3, 0, 0) {
		t.Errorf("behind Clear of none %#x is granted", h)
	}
	p.grant(t, 2)
	p.grant(t, 3)
	p.release(t, number(3, 1, 0))
	p.clear()
	for slot, gen := range []int{1, 1, 1, 0, 0} {
		if h := p.grant(t, 4); h != number(3, slot, gen) {
			t.Errorf("%#x is granted for slot %d", h, slot)
		}
	}
	p.end(t)
}

// P16.2: by the slots' numbers, not in the order in which they were granted.
func TestLists(t *testing.T) {
	p := newPair(t, 2)
	for n := range 6 {
		p.grant(t, 100-n)
	}
	p.release(t, number(2, 4, 0))
	p.release(t, number(2, 0, 0))
	p.release(t, number(2, 2, 0))
	if vals := p.s.Vals(); !slices.Equal(vals, []int{99, 97, 95}) {
		t.Errorf("Vals tells %v", vals)
	}
	p.grant(t, -1)
	p.grant(t, 500)
	if vals := p.s.Vals(); !slices.Equal(vals, []int{-1, 99, 500, 97, 95}) {
		t.Errorf("Vals tells %v", vals)
	}
	want := []uint64{0x0200000000000001, 0x0201000000000000, 0x0202000000000001, 0x0203000000000000, 0x0205000000000000}
	if handles := p.s.Handles(); !slices.Equal(handles, want) {
		t.Errorf("Handles tells %#x", handles)
	}
	p.end(t)
}

// R2, P16.2: what Vals and Handles tell is new memory: a change of it, also of what lies behind its end, doesn't turn the slots, nor what is told another time.
func TestListsAreNew(t *testing.T) {
	for tenant := 1; tenant <= 8; tenant++ {
		for _, p := range stages(t, tenant) {
			vals, handles := p.s.Vals(), p.s.Handles()
			otherVals, otherHandles := p.s.Vals(), p.s.Handles()
			wantVals, wantHandles := p.m.list()
			for i := range vals[:cap(vals)] {
				vals[:cap(vals)][i] = -77
			}
			for i := range handles[:cap(handles)] {
				handles[:cap(handles)][i] = 77
			}
			// Ahead of all else, which might write over what is shared.
			if !slices.Equal(otherVals, wantVals) || !slices.Equal(otherHandles, wantHandles) {
				t.Fatalf("what was told is turned into %v, %#x", otherVals, otherHandles)
			}
			p.look(t)
			p.end(t)
		}
	}
}

// R2, P16.2: what Vals and Handles told isn't turned by what is done later.
func TestListsStay(t *testing.T) {
	for tenant := 1; tenant <= 8; tenant++ {
		for _, p := range stages(t, tenant) {
			vals, handles := p.s.Vals(), p.s.Handles()
			wantVals, wantHandles := slices.Clone(vals), slices.Clone(handles)
			hold := func(after string) {
				t.Helper()
				if !slices.Equal(vals, wantVals) || !slices.Equal(handles, wantHandles) {
					t.Fatalf("behind %s what was told is %v, %#x", after, vals, handles)
				}
			}
			p.lay(t, make([]int, len(vals)))
			hold("Lay")
			if len(handles) > 0 {
				p.release(t, handles[0])
				hold("Release")
			}
			p.grantAll(t)
			hold("Grant")
			p.clear()
			hold("Clear")
			p.end(t)
			hold("all")
		}
	}
}

// P16.3, P16.4: just as many as are held, fewer and more, none and nil, with each number of slots that may be held.
func TestLay(t *testing.T) {
	for held := range many + 1 {
		p := newPair(t, 4)
		for n := range held {
			p.grant(t, n)
		}
		for most := range 2*many + 2 {
			vals := make([]int, most)
			for i := range vals {
				vals[i] = 1000*most + i
			}
			if most == held {
				if err := p.s.Lay(vals); err != nil || !slices.Equal(p.s.Vals(), vals) {
					t.Fatalf("with %d held Lay of %d tells %v", held, most, err)
				}
				p.m.lay(vals)
			} else if err := p.s.Lay(vals); err != api.ErrArg {
				t.Fatalf("with %d held Lay of %d tells %v", held, most, err)
			}
			p.look(t)
		}
		p.lay(t, nil)
		p.lay(t, []int{})
		p.look(t)
		p.end(t)
	}
}

// P16.3: by the slots' numbers, where those that are held lie apart; the handles stay good.
func TestLayApart(t *testing.T) {
	p := newPair(t, 2)
	p.grantAll(t)
	for _, slot := range []int{0, 1, 4, 5, 6, 9, 12, 15} {
		p.release(t, number(2, slot, 0))
	}
	p.lay(t, []int{7, 6, 5, 4, 3, 2, 1, 0})
	for i, slot := range []int{2, 3, 7, 8, 10, 11, 13, 14} {
		if val, err := p.s.Get(number(2, slot, 0)); val != 7-i || err != nil {
			t.Errorf("slot %d has %d, %v", slot, val, err)
		}
	}
	p.look(t)
	if h := p.grant(t, 50); h != number(2, 0, 1) {
		t.Errorf("behind Lay %#x is granted", h)
	}
	p.lay(t, make([]int, 8))
	p.lay(t, []int{8, 7, 6, 5, 4, 3, 2, 1, 0})
	p.end(t)
}

// R2, P16.3: what is handed to Lay isn't changed, nor kept: a later change of it doesn't turn the slots, nor do they turn it.
func TestLayKeepsNothing(t *testing.T) {
	for _, p := range stages(t, 6) {
		vals := make([]int, len(p.m.held), len(p.m.held)+many)
		for i := range vals {
			vals[i] = 30 + i
		}
		whole := vals[:cap(vals)]
		want := slices.Clone(whole)
		p.lay(t, vals)
		p.look(t)
		p.grantAll(t)
		p.lay(t, make([]int, len(p.m.held)))
		p.clear()
		p.grantAll(t)
		if !slices.Equal(whole, want) {
			t.Fatalf("what was handed in is %v", whole)
		}
		again := make([]int, len(p.m.held))
		p.lay(t, again)
		for i := range again {
			again[i] = -9
		}
		p.look(t)
		p.end(t)
	}
}

// P16.4, R3: each error, one behind the other, changes nothing, where none, some and all are held.
func TestErrorsChangeNothing(t *testing.T) {
	for tenant := 1; tenant <= 8; tenant++ {
		for _, p := range stages(t, tenant) {
			for _, h := range append(strange(), number(tenant%8+1, 0, 0), number(tenant, 3, 15)) {
				p.refused(t, h)
				if err := p.s.Lay(make([]int, len(p.m.held)+1)); err != api.ErrArg {
					t.Fatalf("Lay of one more tells %v", err)
				}
				if len(p.m.held) > 0 && p.s.Lay(make([]int, len(p.m.held)-1)) != api.ErrArg {
					t.Fatal("Lay of one fewer tells no error")
				}
				if p.m.free() == many {
					p.grant(t, 99)
				}
				p.look(t)
			}
			p.end(t)
		}
	}
}

// P16.1, P16.2: two Slots side by side, of one tenant and of two, know nothing of each other.
func TestSideBySide(t *testing.T) {
	for _, tenants := range [][2]int{{1, 1}, {3, 3}, {8, 8}, {1, 2}, {8, 1}, {4, 5}} {
		p, q := newPair(t, tenants[0]), newPair(t, tenants[1])
		p.grantAll(t)
		q.look(t)
		h := q.grant(t, 12)
		p.look(t)
		q.release(t, h)
		q.grant(t, 13)
		q.grant(t, 14)
		p.look(t)
		q.look(t)
		p.clear()
		q.look(t)
		p.grant(t, 15)
		p.lay(t, []int{16})
		q.look(t)
		q.lay(t, []int{17, 18})
		p.look(t)
		for range turns {
			p.grantAll(t)
			p.clear()
		}
		p.look(t)
		q.look(t)
		q.end(t)
		p.end(t)
	}
}

// deeds are done of a pair, and beside it it's kept which handles were granted, which of them are good, and what for.
type deeds struct {
	pair
	ever map[uint64]bool
	good map[uint64]int
}

func newDeeds(t *testing.T, tenant int) deeds {
	return deeds{newPair(t, tenant), map[uint64]bool{}, map[uint64]int{}}
}

// grant holds that no handle is granted that ever was.
func (d deeds) grant(t *testing.T, val int) {
	t.Helper()
	h := d.pair.grant(t, val)
	if h == 0 {
		return
	}
	if d.ever[h] {
		t.Fatalf("%#x is granted twice", h)
	}
	d.ever[h], d.good[h] = true, val
}

func (d deeds) release(t *testing.T, h uint64) {
	t.Helper()
	d.pair.release(t, h)
	delete(d.good, h)
}

func (d deeds) clear() {
	d.pair.clear()
	clear(d.good)
}

// lay keeps what the handles are good for by the handles' own order, which is the slots' within one tenant.
func (d deeds) lay(t *testing.T, vals []int) {
	t.Helper()
	d.pair.lay(t, vals)
	if len(vals) != len(d.good) {
		return
	}
	var handles []uint64
	for h := range d.good {
		handles = append(handles, h)
	}
	slices.Sort(handles)
	for i, h := range handles {
		d.good[h] = vals[i]
	}
}

// hold holds that each handle that is good tells its value, and no other that ever was granted tells one.
func (d deeds) hold(t *testing.T) {
	t.Helper()
	for h := range d.ever {
		val, is := d.good[h]
		if got, err := d.s.Get(h); got != val || is && err != nil || !is && err != api.ErrHandle {
			t.Fatalf("Get(%#x) tells %d, %v; it is good: %v, for %d", h, got, err, is, val)
		}
	}
	d.lists(t)
}

// number tells some handle: one that is held, any of the tenant's, of another's, or with a bit turned.
func (d deeds) number(n, of int) uint64 {
	h := d.handle(of >> 4 & 15)
	switch n % 4 {
	case 0:
		return number(d.m.tenant, of>>4&15, of&15)
	case 1:
		return h ^ 1<<(of&63)
	case 2:
		return number(of&7+1, of>>4&15, d.m.gone[of>>4&15]&15)
	}
	return h
}

// step does one deed, picked by two numbers.
func (d deeds) step(t *testing.T, what, of int) {
	t.Helper()
	switch what & 15 {
	case 0, 1, 2, 3, 4, 5:
		d.grant(t, values[of%len(values)])
	case 6, 7, 8, 9:
		d.release(t, d.number(what>>4, of))
	case 10, 11:
		d.get(t, d.number(what>>4, of))
	case 12:
		vals := make([]int, max(0, len(d.m.held)+what>>4%4-1))
		for i := range vals {
			vals[i] = values[(of+i)%len(values)]
		}
		d.lay(t, vals)
	case 13:
		if of%4 == 0 {
			d.clear()
		}
	case 14:
		d.look(t)
	default:
		if handles := d.s.Handles(); len(handles) > 0 {
			d.release(t, handles[of%len(handles)])
		}
	}
}

// P16.1 to P16.5: many deeds in any order, till all slots are used up and beyond, of several tenants side by side.
func TestManyDeeds(t *testing.T) {
	r := rand.New(rand.NewSource(47))
	for range 150 {
		all := []deeds{newDeeds(t, r.Intn(8)+1), newDeeds(t, r.Intn(8)+1), newDeeds(t, r.Intn(8)+1)}
		for range 1500 {
			d := all[r.Intn(len(all))]
			d.step(t, r.Intn(256), r.Intn(256))
			d.hold(t)
		}
		for _, d := range all {
			d.end(t)
			if d.m.free() < many || d.s.Free() {
				t.Fatal("the slots aren't used up")
			}
		}
	}
}

// P16.5: grants alone with releases of just one slot, of all in turn, and of the last: no handle twice, 256 in all, whatever was let go between.
func TestNeverTwice(t *testing.T) {
	for _, pick := range []func(n, held int) int{
		func(n, held int) int { return 0 },
		func(n, held int) int { return held - 1 },
		func(n, held int) int { return n % held },
		func(n, held int) int { return n * 7 % held },
		func(n, held int) int { return held / 2 },
	} {
		d := newDeeds(t, 3)
		for n := 0; d.s.Free(); n++ {
			for d.s.Free() {
				d.grant(t, n)
				d.hold(t)
			}
			handles := d.s.Handles()
			d.release(t, handles[pick(n, len(handles))])
			d.hold(t)
			for handles := d.s.Handles(); !d.s.Free() && len(handles) > 0; handles = handles[1:] {
				d.release(t, handles[0])
			}
		}
		if len(d.ever) != many*turns || len(d.good) != 0 {
			t.Fatalf("%d were granted", len(d.ever))
		}
	}
}

// P1, P16.2, P16.4: no number makes Get or Release panic, and all is as the chapter's words tell it.
func FuzzHandles(f *testing.F) {
	for _, h := range strange() {
		f.Add(h)
		f.Add(^h)
	}
	for tenant := 1; tenant <= 8; tenant++ {
		f.Add(number(tenant, tenant, 0))
		f.Add(number(tenant, 15, tenant))
	}
	f.Fuzz(func(t *testing.T, h uint64) {
		for tenant := 1; tenant <= 8; tenant++ {
			for _, p := range stages(t, tenant) {
				for _, n := range []uint64{h, h & 0x0f0f00000000000f, h&0x000f000000000001 | uint64(tenant)<<56} {
					p.get(t, n)
					p.release(t, n)
					p.get(t, n)
				}
				p.look(t)
			}
		}
	})
}

// P1, P16.1, P16.3: no tenant, no value and no list make New, Grant or Lay panic.
func FuzzNumbers(f *testing.F) {
	for i, tenant := range append([]int{1, 2, 7, 8}, notTenants...) {
		f.Add(tenant, values[i%len(values)], i%20)
	}
	f.Fuzz(func(t *testing.T, tenant, val, most int) {
		if s := New(tenant); (s != nil) != (1 <= tenant && tenant <= 8) {
			t.Fatalf("New(%d) tells %v", tenant, s)
		}
		p := newPair(t, tenant&7+1)
		for n := range many + 2 {
			p.grant(t, val+n)
			p.lay(t, make([]int, most&31))
			p.look(t)
		}
	})
}

// P1, P16.1 to P16.5: no deeds in any order panic, and all is as the chapter's words tell it.
func FuzzDeeds(f *testing.F) {
	f.Add(0, []byte{0, 0, 0, 1, 6, 3, 0, 2, 14, 0})
	f.Add(7, []byte{0, 0, 12, 5, 44, 5, 13, 0, 0, 9, 70, 0, 15, 0, 13, 4, 14, 0})
	f.Add(3, []byte{255, 255, 0, 0, 255, 255, 0, 0, 255, 255, 13, 0, 13, 1})
	f.Fuzz(func(t *testing.T, tenant int, b []byte) {
		d := newDeeds(t, tenant&7+1)
		for ; len(b) >= 2; b = b[2:] {
			d.step(t, int(b[0]), int(b[1]))
		}
		d.hold(t)
		d.end(t)
	})
}

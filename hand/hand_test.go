package hand

import (
	"encoding/binary"
	"math"
	"math/rand"
	"testing"
)

// handle is what a handle has.
type handle struct{ tenant, slot, gen int }

// all tells each handle that there is.
func all() []handle {
	var l []handle
	for tenant := 1; tenant <= 8; tenant++ {
		for slot := 0; slot <= 15; slot++ {
			for gen := 0; gen <= 15; gen++ {
				l = append(l, handle{tenant, slot, gen})
			}
		}
	}
	return l
}

// some are handles at the corners, and some within.
func some() []handle {
	return []handle{{1, 0, 0}, {8, 15, 15}, {1, 15, 0}, {8, 0, 15}, {1, 0, 15}, {8, 15, 0}, {1, 2, 3}, {3, 2, 1}, {5, 9, 12}, {7, 4, 8}}
}

// far are numbers that are nowhere near: the least and the greatest, those about the ends of shorter integers, and single bits.
func far() []int {
	l := []int{math.MinInt, math.MinInt + 1, math.MaxInt, math.MaxInt - 1}
	for bit := 5; bit < 63; bit++ {
		l = append(l, 1<<bit, -1<<bit, 1<<bit-1, 1-1<<bit)
	}
	return l
}

// coming are numbers that come to n, or to a neighbour of it, if they are cut, wrap, or lose their sign.
func coming(n int) []int {
	l := []int{-n, ^n, n - 16, n + 16, math.MinInt + n, math.MaxInt - n}
	for _, bit := range []int{4, 7, 8, 15, 16, 31, 32, 47, 48, 55, 56, 62} {
		l = append(l, n+1<<bit, n-1<<bit, n|1<<bit)
	}
	return l
}

// amiss are the numbers of l outside least to most.
func amiss(l []int, least, most int) []int {
	var out []int
	for _, n := range l {
		if n < least || n > most {
			out = append(out, n)
		}
	}
	return out
}

// noTenant are numbers that no tenant has, some of them close to tenant n in one way or other.
func noTenant(n int) []int {
	return amiss(append(append([]int{0, -1, -8, 9, 10, 15, 16}, far()...), coming(n)...), 1, 8)
}

// noSmall are numbers that neither a slot nor a generation has, some of them close to n in one way or other.
func noSmall(n int) []int {
	return amiss(append(append([]int{-1, -15, -16, 16, 17, 31, 32}, far()...), coming(n)...), 0, 15)
}

// number is the chapter's words, laid out byte by byte, the highest first.
func number(x handle) uint64 {
	return binary.BigEndian.Uint64([]byte{byte(x.tenant), byte(x.slot), 0, 0, 0, 0, 0, byte(x.gen)})
}

// named tells what h has, byte by byte, and whether there is such a handle.
func named(h uint64) (handle, bool) {
	var b [8]byte
	binary.BigEndian.PutUint64(b[:], h)
	if b[0] < 1 || b[0] > 8 || b[1] > 15 || b[7] > 15 || b[2]|b[3]|b[4]|b[5]|b[6] != 0 {
		return handle{}, false
	}
	return handle{int(b[0]), int(b[1]), int(b[7])}, true
}

// right tells whether each of the three is as the chapter tells.
func right(x handle) bool {
	return x.tenant >= 1 && x.tenant <= 8 && x.slot >= 0 && x.slot <= 15 && x.gen >= 0 && x.gen <= 15
}

// holdPack holds Pack against the chapter's words, and what it tells against Unpack.
func holdPack(t *testing.T, x handle) {
	t.Helper()
	want := uint64(0)
	if right(x) {
		want = number(x)
	}
	got := Pack(x.tenant, x.slot, x.gen)
	if got != want {
		t.Fatalf("Pack(%d, %d, %d) tells %#x, not %#x", x.tenant, x.slot, x.gen, got, want)
	}
	tenant, slot, gen, ok := Unpack(got)
	if ok != right(x) || ok && (handle{tenant, slot, gen}) != x {
		t.Fatalf("Pack(%d, %d, %d) is unpacked to %d, %d, %d, %v", x.tenant, x.slot, x.gen, tenant, slot, gen, ok)
	}
}

// holdAmiss holds that of x, which isn't right, 0 is packed.
func holdAmiss(t *testing.T, tenant, slot, gen int) {
	t.Helper()
	if right(handle{tenant, slot, gen}) {
		t.Fatalf("the test is wrong: %d, %d, %d is a handle", tenant, slot, gen)
	}
	if got := Pack(tenant, slot, gen); got != 0 {
		t.Fatalf("Pack(%d, %d, %d), of no handle, tells %#x", tenant, slot, gen, got)
	}
}

// holdUnpack holds Unpack against the chapter's words, and what it tells against Pack.
func holdUnpack(t *testing.T, h uint64) {
	t.Helper()
	want, is := named(h)
	tenant, slot, gen, ok := Unpack(h)
	if ok != is || (handle{tenant, slot, gen}) != want {
		t.Fatalf("Unpack(%#x) tells %d, %d, %d, %v", h, tenant, slot, gen, ok)
	}
	if back := Pack(tenant, slot, gen); ok && back != h || !ok && back != 0 {
		t.Fatalf("Unpack(%#x) tells %d, %d, %d, which is packed to %#x", h, tenant, slot, gen, back)
	}
}

// holdNone holds that h is no handle's number, and that three 0 come with that.
func holdNone(t *testing.T, h uint64) {
	t.Helper()
	if tenant, slot, gen, ok := Unpack(h); ok || tenant != 0 || slot != 0 || gen != 0 {
		t.Fatalf("Unpack(%#x), of no handle, tells %d, %d, %d, %v", h, tenant, slot, gen, ok)
	}
}

// P15.1: the chapter's example.
func TestExample(t *testing.T) {
	h := Pack(1, 2, 3)
	if h != 1<<56+2*(1<<48)+3 {
		t.Errorf("Pack(1, 2, 3) tells %#x", h)
	}
	if tenant, slot, gen, ok := Unpack(h); tenant != 1 || slot != 2 || gen != 3 || !ok {
		t.Errorf("Unpack(%#x) tells %d, %d, %d, %v", h, tenant, slot, gen, ok)
	}
}

// P15.1: numbers written out by hand, at both ends of each of the three.
func TestByHand(t *testing.T) {
	for x, want := range map[handle]uint64{
		{1, 0, 0}:   0x0100000000000000,
		{8, 0, 0}:   0x0800000000000000,
		{1, 15, 0}:  0x010f000000000000,
		{1, 0, 15}:  0x010000000000000f,
		{8, 15, 15}: 0x080f00000000000f,
		{4, 10, 11}: 0x040a00000000000b,
		{0, 0, 0}:   0,
		{9, 0, 0}:   0,
		{0, 15, 15}: 0,
		{9, 15, 15}: 0,
		{1, -1, 0}:  0,
		{8, -1, 15}: 0,
		{1, 16, 0}:  0,
		{8, 16, 15}: 0,
		{1, 0, -1}:  0,
		{8, 15, -1}: 0,
		{1, 0, 16}:  0,
		{8, 15, 16}: 0,
		{-1, 0, 0}:  0,
		{0, -1, -1}: 0,
		{9, 16, 16}: 0,
	} {
		if got := Pack(x.tenant, x.slot, x.gen); got != want {
			t.Errorf("Pack(%d, %d, %d) tells %#x", x.tenant, x.slot, x.gen, got)
		}
		tenant, slot, gen, ok := Unpack(want)
		if ok != (want != 0) {
			t.Errorf("Unpack(%#x) tells %v", want, ok)
		}
		if ok && (handle{tenant, slot, gen}) != x {
			t.Errorf("Unpack(%#x) tells %d, %d, %d", want, tenant, slot, gen)
		}
	}
}

// P15.1, P15.2: all handles that there are: their numbers, that these unpack to them, and that no two are alike, and none is 0.
func TestAllHandles(t *testing.T) {
	l := all()
	if len(l) != 2048 {
		t.Fatalf("%d handles", len(l))
	}
	of := map[uint64]handle{}
	for _, x := range l {
		h := Pack(x.tenant, x.slot, x.gen)
		if h == 0 || h != number(x) {
			t.Fatalf("Pack(%d, %d, %d) tells %#x", x.tenant, x.slot, x.gen, h)
		}
		if other, is := of[h]; is {
			t.Fatalf("%v and %v have number %#x", other, x, h)
		}
		of[h] = x
		if tenant, slot, gen, ok := Unpack(h); !ok || (handle{tenant, slot, gen}) != x {
			t.Fatalf("Unpack(%#x) tells %d, %d, %d, %v", h, tenant, slot, gen, ok)
		}
	}
}

// P15.1, P15.2: all numbers at and about what may be, in all ways.
func TestPackNear(t *testing.T) {
	many := 0
	for tenant := -20; tenant <= 40; tenant++ {
		for slot := -20; slot <= 40; slot++ {
			for gen := -20; gen <= 40; gen++ {
				holdPack(t, handle{tenant, slot, gen})
				if Pack(tenant, slot, gen) != 0 {
					many++
				}
			}
		}
	}
	if many != 2048 {
		t.Errorf("%d are packed", many)
	}
}

// P15.1, P1: each of the three amiss, at every handle, while the others are right.
func TestPackWithOneAmiss(t *testing.T) {
	for _, x := range all() {
		for _, tenant := range noTenant(x.tenant) {
			holdAmiss(t, tenant, x.slot, x.gen)
		}
		for _, slot := range noSmall(x.slot) {
			holdAmiss(t, x.tenant, slot, x.gen)
		}
		for _, gen := range noSmall(x.gen) {
			holdAmiss(t, x.tenant, x.slot, gen)
		}
	}
}

// P15.1, P1: two of the three amiss, and all three.
func TestPackWithMoreAmiss(t *testing.T) {
	r := rand.New(rand.NewSource(15))
	for _, x := range some() {
		tenants, slots, gens := noTenant(x.tenant), noSmall(x.slot), noSmall(x.gen)
		for _, tenant := range tenants {
			for _, slot := range slots {
				holdAmiss(t, tenant, slot, x.gen)
				holdAmiss(t, tenant, slot, gens[r.Intn(len(gens))])
			}
			for _, gen := range gens {
				holdAmiss(t, tenant, x.slot, gen)
			}
		}
		for _, slot := range slots {
			for _, gen := range gens {
				holdAmiss(t, x.tenant, slot, gen)
			}
		}
	}
}

// P15.1, P15.2: what isn't right, but whose parts run over into each other and come to a handle's number, be they laid on one another or added up.
func TestPackRunningOver(t *testing.T) {
	for _, x := range all() {
		holdAmiss(t, 0, x.slot+x.tenant<<8, x.gen)
		holdAmiss(t, x.tenant+1, x.slot-1<<8, x.gen)
		holdAmiss(t, x.tenant-1, x.slot+1<<8, x.gen)
		holdAmiss(t, 0, 0, x.gen+x.slot<<48+x.tenant<<56)
		holdAmiss(t, x.tenant, 0, x.gen+(x.slot+1)<<48)
		holdAmiss(t, x.tenant, x.slot+1, x.gen-1<<48)
		holdAmiss(t, x.tenant, x.slot-1, x.gen+1<<48)
		holdAmiss(t, x.tenant, x.slot, x.gen+1<<56)
		holdAmiss(t, x.tenant|1<<8, x.slot, x.gen)
		holdAmiss(t, x.tenant+1<<8, x.slot-1<<16, x.gen)
		holdAmiss(t, x.tenant+1, x.slot, x.gen-1<<56)
	}
}

// P15.1: no other choice of a tenant's, a slot's and a generation's eight bits is a handle's number.
func TestUnpackAllParts(t *testing.T) {
	many := 0
	for tenant := range uint64(256) {
		for slot := range uint64(256) {
			for gen := range uint64(256) {
				h := tenant<<56 + slot<<48 + gen
				holdUnpack(t, h)
				if _, _, _, ok := Unpack(h); ok {
					many++
				}
			}
		}
	}
	if many != 2048 {
		t.Errorf("%d are unpacked", many)
	}
}

// P15.1, R3: numbers that are no handle's, each with a reason of its own.
func TestUnpackNone(t *testing.T) {
	for _, h := range []uint64{
		0, 1, 15, 16, 255, 256, 1<<64 - 1, 1<<64 - 2, 1 << 63, 1<<63 - 1,
		1 << 48, 0x000f00000000000f, 0x00ff0000000000ff, 1<<56 - 1,
		0x0900000000000000, 0x090f00000000000f, 0x1000000000000000, 0x1100000000000000, 0x8100000000000000, 0xff00000000000000,
		0x0110000000000000, 0x0120000000000000, 0x0180000000000000, 0x01ff000000000000,
		0x0100000000000010, 0x0100000000000020, 0x0100000000000080, 0x01000000000000ff,
		0x0100000000000100, 0x0100000000010000, 0x0100000100000000, 0x0100010000000000, 0x0100800000000000, 0x0100ffffffffff00,
		0x0000000000030201, 0x0300000000000201, 0x0000000000010203, 0x0102030000000000, 0x0102000000000300,
	} {
		holdNone(t, h)
	}
}

// P15.1, R3: of each handle's number, with any bit set between the slot's and the generation's, one or more or all.
func TestUnpackBetween(t *testing.T) {
	r := rand.New(rand.NewSource(16))
	for _, x := range all() {
		h := number(x)
		for bit := 8; bit < 48; bit++ {
			holdNone(t, h|1<<bit)
			holdNone(t, h|(1<<48-1<<bit))
			holdNone(t, h|(1<<bit-1)<<8&(1<<48-1)|1<<8)
		}
		for range 20 {
			if between := r.Uint64() & (1<<48 - 1<<8); between != 0 {
				holdNone(t, h|between)
			}
		}
	}
}

// P15.1, R3: of each handle's number, with a tenant, a slot or a generation beyond what may be.
func TestUnpackBeyond(t *testing.T) {
	for _, x := range all() {
		h := number(x)
		for n := uint64(9); n < 256; n++ {
			holdNone(t, h&(1<<56-1)|n<<56)
		}
		for n := uint64(16); n < 256; n++ {
			holdNone(t, h&^(255<<48)|n<<48)
			holdNone(t, h&^255|n)
		}
		holdNone(t, h&(1<<56-1))
	}
}

// P15.1, P15.2: of each handle's number, with any one bit turned, and any two: another handle, or none.
func TestUnpackTurned(t *testing.T) {
	for _, x := range all() {
		h := number(x)
		for bit := range 64 {
			one := h ^ 1<<bit
			holdUnpack(t, one)
			if tenant, slot, gen, ok := Unpack(one); ok && (handle{tenant, slot, gen}) == x {
				t.Fatalf("%#x and %#x are unpacked alike", h, one)
			}
			for other := range bit {
				holdUnpack(t, one^1<<other)
			}
		}
	}
}

// P15.1, P15.2: numbers of no shape, whole and with just some of their bits.
func TestUnpackAny(t *testing.T) {
	r := rand.New(rand.NewSource(17))
	for range 100000 {
		h := r.Uint64()
		holdUnpack(t, h)
		holdUnpack(t, h&0x0f0f00000000000f)
		holdUnpack(t, h&0x1f1f00000000001f)
		holdUnpack(t, h&r.Uint64()&r.Uint64()&r.Uint64()&r.Uint64())
		holdUnpack(t, h>>r.Intn(64))
		holdUnpack(t, h<<r.Intn(64))
	}
}

// R2: nothing is kept: what is told a second time, behind other calls and in another order, is the same.
func TestNothingIsKept(t *testing.T) {
	l := all()
	r := rand.New(rand.NewSource(18))
	for range 3 {
		for _, i := range r.Perm(len(l)) {
			holdPack(t, l[i])
			holdNone(t, number(l[i])|1<<20)
			holdAmiss(t, l[i].tenant, l[i].slot, 16)
			holdUnpack(t, number(l[r.Intn(len(l))]))
			holdPack(t, l[i])
		}
	}
}

// P1, P15.1, P15.2: no arguments make Pack panic, and all is as the chapter's words tell it.
func FuzzPack(f *testing.F) {
	for _, x := range some() {
		f.Add(x.tenant, x.slot, x.gen)
		for i, n := range far() {
			f.Add(n, x.slot, x.gen)
			f.Add(x.tenant, n, x.gen)
			f.Add(x.tenant, x.slot, n)
			f.Add(n, far()[(i+1)%len(far())], far()[(i+2)%len(far())])
		}
	}
	f.Fuzz(func(t *testing.T, tenant, slot, gen int) {
		holdPack(t, handle{tenant, slot, gen})
		holdPack(t, handle{tenant&7 + 1, slot, gen})
		holdPack(t, handle{tenant, slot & 15, gen & 15})
		holdPack(t, handle{tenant&7 + 1, slot & 15, gen & 15})
	})
}

// P1, P15.1, P15.2: no number makes Unpack panic, and all is as the chapter's words tell it.
func FuzzUnpack(f *testing.F) {
	for _, x := range some() {
		f.Add(number(x))
		f.Add(^number(x))
		f.Add(number(x) << 8)
		f.Add(number(x) >> 8)
	}
	f.Add(uint64(0))
	f.Add(uint64(math.MaxUint64))
	f.Fuzz(func(t *testing.T, h uint64) {
		holdUnpack(t, h)
		holdUnpack(t, h&0x0f0f00000000000f)
	})
}

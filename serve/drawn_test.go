package serve

import (
	"bower/api"
	"math/rand"
	"testing"
)

// drawHandle tells mostly a handle that a tenant holds, else one that is another's, is old, or is none.
func (b *both) drawHandle(tenant int, draw *rand.Rand) uint64 {
	held := b.handles(tenant)
	switch draw.Intn(60) {
	case 0:
		return draw.Uint64()
	case 1:
		return handle(draw.Intn(10), draw.Intn(18), draw.Intn(18))
	case 2:
		return handle(tenant, draw.Intn(16), draw.Intn(16))
	case 3:
		held = b.handles(1 + draw.Intn(8))
	}
	if len(held) == 0 {
		return 0
	}
	return held[draw.Intn(len(held))]
}

// drawBytes tells the bytes of a tenant's request, and at times some that are none's.
func (b *both) drawBytes(tenant int, draw *rand.Rand) []byte {
	p := b.m.people[tenant]
	r := api.Req{Op: 1 + draw.Intn(21), Tenant: tenant, N: draw.Intn(8), Bit: draw.Intn(2)}
	r.A, r.B, r.C = b.drawHandle(tenant, draw), b.drawHandle(tenant, draw), b.drawHandle(tenant, draw)
	switch {
	case !p.there && draw.Intn(4) > 0:
		r.Op = api.Create
	case r.Op == api.Teardown && draw.Intn(8) > 0:
		r.Op = api.Eval
	case len(b.handles(tenant)) > 13 && draw.Intn(3) > 0:
		r = b.drawRelease(tenant, draw)
	case draw.Intn(3) > 0:
		r = b.drawMake(tenant, draw)
	}
	switch r.Op {
	case api.Create:
		r.N = draw.Intn(b.m.left()/2 + 3)
	case api.Eval:
		r.N = draw.Intn(256)
	}
	sent := laid(r)
	switch draw.Intn(60) {
	case 0:
		sent[draw.Intn(len(sent))] = byte(draw.Intn(256))
	case 1:
		sent = append(sent, byte(draw.Intn(3)))
	case 2:
		sent = sent[:draw.Intn(len(sent))]
	}
	return sent
}

// T1, T3, T4, T6, and all of P19.1 and P19.2, for requests and picks drawn at random; no handle is told twice.
func TestDrawn(t *testing.T) {
	draw := rand.New(rand.NewSource(11))
	var codes [8]int
	var ops [22]int
	collected := collects
	for _, x := range []struct{ capacity, many int }{{0, 400}, {1, 400}, {20, 1000}, {77, 1000}, {150, 2500}, {300, 3500}, {300, 3500}, {1200, 1500}, {10000, 1500}} {
		for picks := range 3 {
			b := newBoth(t, x.capacity)
			met := map[uint64]bool{}
			for i := range x.many {
				switch {
				case picks == 1 && draw.Intn(3) == 0:
					pick(b.s, draw)
				case picks == 2 && draw.Intn(2) == 0:
					b.s.Swap(draw.Intn(7))
				}
				sent := b.drawBytes(1+draw.Intn(8), draw)
				var told api.Resp
				if i%25 == 0 || b.most()-len(b.s.Look().Nums) < 231 {
					told = b.watch(sent)
				} else {
					told = b.send(sent)
				}
				codes[told.Code]++
				if told.Code != 0 {
					continue
				}
				ops[sent[0]]++
				if op := sent[0]; op >= api.Const && op <= api.Forall {
					if met[told.Val] {
						t.Fatal("told twice:", told)
					}
					met[told.Val] = true
				}
			}
			b.look()
		}
	}
	for code, many := range codes {
		if many < 20 {
			t.Error("seldom:", code, many)
		}
	}
	for op, many := range ops[1:] {
		if many < 20 {
			t.Error("seldom asked:", op+1, many)
		}
	}
	if collects-collected < 5 {
		t.Error("seldom without room:", collects-collected)
	}
}

// P19.2: picks drawn at random, each held against the chapter's words.
func TestDrawnPicks(t *testing.T) {
	draw := rand.New(rand.NewSource(12))
	for _, capacity := range []int{30, 150, 500} {
		b := newBoth(t, capacity)
		for range 150 {
			for range 4 {
				b.send(b.drawBytes(1+draw.Intn(8), draw))
			}
			what, n := draw.Intn(5), draw.Intn(7)
			if what == 2 {
				n = draw.Intn(300)
			}
			b.check(what, n)
		}
	}
}

// T1, T2: the answers to a tenant's requests are the same, whatever others ask, and whatever is picked between.
// The others leave as much as tenant 4 wants, so that each Create of it succeeds or fails alike.
func TestOthersAreNotToBeSeen(t *testing.T) {
	const quota = 60
	create := laid(api.Req{Op: api.Create, Tenant: 4, N: quota})
	draw := rand.New(rand.NewSource(13))
	for range 8 {
		alone, among := newBoth(t, 300), newBoth(t, 150)
		granted := 0
		for i := range 250 {
			sent := alone.drawBytes(4, draw)
			if i == 0 || len(sent) > 0 && sent[0] == api.Create {
				sent = create
			}
			want := alone.send(sent)
			for range draw.Intn(5) {
				pick(among.s, draw)
				other := among.drawBytes(1+draw.Intn(8), draw)
				r, ok := parse(other)
				if ok && (r.Tenant == 4 || r.Op == api.Create && among.m.left()-r.N < quota) {
					continue
				}
				among.send(other)
			}
			if got := readResp(t, among.s.Do(sent)); got != want {
				t.Fatal(sent, got, want)
			}
			among.m.do(sent)
			if want.Code == 0 && want.Val > 1<<56 {
				granted++
			}
		}
		if granted < 50 {
			t.Error("seldom granted:", granted)
		}
	}
}

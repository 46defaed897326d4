package ledger

import (
	"bower/api"
	"math"
	"math/rand"
	"testing"
)

// far are numbers that are neither a capacity, a tenant nor a quota: those that come to one if they are cut, wrap or lose their sign, and the farthest.
func far() []int {
	return []int{
		-1, -2, -8, -9, -60, -255, -256, -10000, -65535, -65536,
		1 << 17, 1<<17 + 5, 1<<31 - 1, 1 << 31, 1<<31 + 1, 1 << 32, 1<<32 + 1, 1<<32 + 8, 1<<32 + 100, -1 << 31, -1<<31 + 1, -1 << 32, -1<<32 + 1, -1<<32 + 8,
		1 << 62, 1<<62 + 1, math.MaxInt - 1, math.MaxInt, math.MinInt, math.MinInt + 1, math.MinInt + 8, math.MinInt + 100,
	}
}

// notTenants are numbers of no tenant.
func notTenants() []int {
	return append([]int{0, 9, 10, 15, 16, 17, 65, 129, 255, 256, 257, 264, 1<<16 + 1, 1<<16 + 8}, far()...)
}

// notQuotas are numbers that no quota is.
func notQuotas() []int {
	return append([]int{65536, 65537, 65536 + 100, 2*65536 - 1}, far()...)
}

// model is the chapter's words: of those that are there their quotas.
type model struct {
	capacity int
	quotas   map[int]int
}

func (m model) left() int {
	left := m.capacity
	for _, quota := range m.quotas {
		left -= quota
	}
	return left
}

func (m model) admit(tenant, quota int) error {
	_, there := m.quotas[tenant]
	switch {
	case tenant < 1, tenant > 8, quota < 0, quota > 65535:
		return api.ErrArg
	case there:
		return api.ErrTwice
	case quota > m.left():
		return api.ErrFull
	}
	m.quotas[tenant] = quota
	return nil
}

func (m model) leave(tenant int) error {
	if _, there := m.quotas[tenant]; !there {
		return api.ErrNone
	}
	delete(m.quotas, tenant)
	return nil
}

// pair is a Ledger and its model, to be asked the same.
type pair struct {
	l *Ledger
	m model
}

func newPair(t *testing.T, capacity int) pair {
	t.Helper()
	l := New(capacity)
	if l == nil {
		t.Fatalf("there is no ledger of capacity %d", capacity)
	}
	p := pair{l, model{capacity, map[int]int{}}}
	p.look(t)
	return p
}

// quota holds what Quota tells of a tenant against the model.
func (p pair) quota(t *testing.T, tenant int) int {
	t.Helper()
	quota, ok := p.l.Quota(tenant)
	want, there := p.m.quotas[tenant]
	if quota != want || ok != there {
		t.Fatalf("capacity %d, %v: Quota(%d) tells %d, %v", p.m.capacity, p.m.quotas, tenant, quota, ok)
	}
	return quota
}

// look holds Left and all quotas against the model, and against the capacity.
func (p pair) look(t *testing.T) {
	t.Helper()
	sum := 0
	for tenant := -1; tenant <= 10; tenant++ {
		sum += p.quota(t, tenant)
	}
	if left := p.l.Left(); left != p.m.left() || left != p.m.capacity-sum || left < 0 || sum > p.m.capacity {
		t.Fatalf("capacity %d, %v: Left tells %d", p.m.capacity, p.m.quotas, left)
	}
}

func (p pair) admit(t *testing.T, tenant, quota int) error {
	t.Helper()
	err := p.l.Admit(tenant, quota)
	if want := p.m.admit(tenant, quota); err != want {
		t.Fatalf("capacity %d, %v: Admit(%d, %d) tells %v, not %v", p.m.capacity, p.m.quotas, tenant, quota, err, want)
	}
	p.look(t)
	return err
}

func (p pair) leave(t *testing.T, tenant int) error {
	t.Helper()
	err := p.l.Leave(tenant)
	if want := p.m.leave(tenant); err != want {
		t.Fatalf("capacity %d, %v: Leave(%d) tells %v, not %v", p.m.capacity, p.m.quotas, tenant, err, want)
	}
	p.look(t)
	return err
}

// admitted admits a tenant that has to be let in.
func (p pair) admitted(t *testing.T, tenant, quota int) {
	t.Helper()
	if err := p.admit(t, tenant, quota); err != nil {
		t.Fatalf("capacity %d, %v: Admit(%d, %d) tells %v", p.m.capacity, p.m.quotas, tenant, quota, err)
	}
}

// expect asks for what has to be told the error want, or nil.
func (p pair) expect(t *testing.T, tenant, quota int, want error) {
	t.Helper()
	if err := p.admit(t, tenant, quota); err != want {
		t.Fatalf("capacity %d, %v: Admit(%d, %d) tells %v, not %v", p.m.capacity, p.m.quotas, tenant, quota, err, want)
	}
}

// stages are ledgers with no tenant, some, and all, with something left and with nothing.
func stages(t *testing.T) []pair {
	t.Helper()
	var l []pair
	for _, capacity := range []int{0, 1, 100, 9999, 10000} {
		for _, tenants := range [][]int{{}, {1}, {8}, {3}, {2, 5}, {8, 1, 4}, {1, 2, 3, 4, 5, 6, 7, 8}} {
			some, full := newPair(t, capacity), newPair(t, capacity)
			for i, tenant := range tenants {
				some.admitted(t, tenant, some.m.left()/3)
				if i < len(tenants)-1 {
					full.admitted(t, tenant, full.m.left()/2)
				} else {
					full.admitted(t, tenant, full.m.left())
				}
			}
			l = append(l, some, full)
		}
	}
	return l
}

// P17.1: the capacities 0 to 10000 have a ledger, without tenants, with all of it left; no other has.
func TestNew(t *testing.T) {
	for _, capacity := range []int{0, 1, 9999, 10000} {
		l := New(capacity)
		if l == nil || l.Left() != capacity {
			t.Fatalf("there is no ledger of capacity %d, or not all of it is left", capacity)
		}
		for tenant := 1; tenant <= 8; tenant++ {
			if quota, ok := l.Quota(tenant); quota != 0 || ok || l.Leave(tenant) != api.ErrNone {
				t.Errorf("in a new ledger Quota(%d) tells %d, %v", tenant, quota, ok)
			}
		}
	}
	for _, capacity := range append([]int{-1, 10001, 10002, 16384, 20000, 65535, 65536, 65636}, far()...) {
		if New(capacity) != nil {
			t.Errorf("there is a ledger of capacity %d", capacity)
		}
	}
	for capacity := -300; capacity <= 10300; capacity++ {
		l := New(capacity)
		if is := l != nil; is != (0 <= capacity && capacity <= 10000) {
			t.Fatalf("there is a ledger of capacity %d: %v", capacity, is)
		}
		if l != nil && l.Left() != capacity {
			t.Fatalf("of capacity %d there is left %d", capacity, l.Left())
		}
	}
}

// P17.1: the chapter's example.
func TestExample(t *testing.T) {
	l := New(5)
	if err := l.Admit(1, 3); err != nil {
		t.Errorf("Admit(1, 3) tells %v", err)
	}
	if err := l.Admit(2, 3); err != api.ErrFull {
		t.Errorf("Admit(2, 3) tells %v", err)
	}
	if quota, ok := l.Quota(1); quota != 3 || !ok {
		t.Errorf("Quota(1) tells %d, %v", quota, ok)
	}
	if quota, ok := l.Quota(2); quota != 0 || ok {
		t.Errorf("Quota(2) tells %d, %v", quota, ok)
	}
	if left := l.Left(); left != 2 {
		t.Errorf("Left tells %d", left)
	}
}

// P17.1: the errors are of api's own type, each itself.
func TestErrorsAreCodes(t *testing.T) {
	l := New(5)
	l.Admit(1, 3)
	for i, c := range []struct {
		got  error
		want api.Code
	}{
		{l.Admit(0, 1), api.ErrArg}, {l.Admit(2, -1), api.ErrArg}, {l.Admit(1, 1), api.ErrTwice}, {l.Admit(2, 3), api.ErrFull}, {l.Leave(2), api.ErrNone}, {l.Leave(0), api.ErrNone},
	} {
		if code, ok := c.got.(api.Code); !ok || code != c.want {
			t.Errorf("%d: %v is told, not %v", i, c.got, c.want)
		}
	}
}

// P17.1: each of the tenants 1 to 8 may be there, alone, with any quota up to the capacity.
func TestEachTenant(t *testing.T) {
	for tenant := 1; tenant <= 8; tenant++ {
		for _, capacity := range []int{0, 1, 2, 255, 256, 300, 9999, 10000} {
			for _, quota := range []int{0, 1, 2, 254, 255, 256, 257, 300, 9998, 9999, 10000} {
				if quota > capacity {
					continue
				}
				p := newPair(t, capacity)
				p.admitted(t, tenant, quota)
				if got, ok := p.l.Quota(tenant); got != quota || !ok || p.l.Left() != capacity-quota {
					t.Fatalf("Quota(%d) tells %d, %v, and %d are left", tenant, got, ok, p.l.Left())
				}
				if err := p.leave(t, tenant); err != nil {
					t.Fatalf("Leave(%d) tells %v", tenant, err)
				}
				if got, ok := p.l.Quota(tenant); got != 0 || ok || p.l.Left() != capacity {
					t.Fatalf("Quota(%d), which left, tells %d, %v, and %d are left", tenant, got, ok, p.l.Left())
				}
			}
		}
	}
}

// P17.1, P17.2, R3, P1: what is no tenant's number, with any quota: it can't be admitted, isn't there, and can't leave.
func TestNoTenants(t *testing.T) {
	for _, p := range stages(t) {
		left := p.m.left()
		for _, tenant := range notTenants() {
			for _, quota := range []int{0, 1, left - 1, left, left + 1, 65535, 65536, -1, math.MaxInt, math.MinInt} {
				p.expect(t, tenant, quota, api.ErrArg)
			}
			if quota, ok := p.l.Quota(tenant); quota != 0 || ok {
				t.Fatalf("Quota(%d) tells %d, %v", tenant, quota, ok)
			}
			if err := p.leave(t, tenant); err != api.ErrNone {
				t.Fatalf("Leave(%d) tells %v", tenant, err)
			}
		}
	}
}

// P17.1, P17.2: all numbers near those of the tenants, by Admit, Quota and Leave.
func TestTenantsNear(t *testing.T) {
	for tenant := -1000; tenant <= 1000; tenant++ {
		p := newPair(t, 10)
		want := error(api.ErrArg)
		if tenant >= 1 && tenant <= 8 {
			want = nil
		}
		p.expect(t, tenant, 7, want)
		p.quota(t, tenant)
		p.leave(t, tenant)
		p.leave(t, tenant)
	}
}

// P17.1, P17.2, P1: what is no quota, of one that isn't there, that is there, that left, and that there can't be: ErrArg ahead of all else.
func TestNoQuotas(t *testing.T) {
	for _, p := range stages(t) {
		for _, quota := range notQuotas() {
			for tenant := -1; tenant <= 10; tenant++ {
				p.expect(t, tenant, quota, api.ErrArg)
			}
		}
	}
	p := newPair(t, 10000)
	p.admitted(t, 2, 9)
	p.leave(t, 2)
	for _, quota := range notQuotas() {
		p.expect(t, 2, quota, api.ErrArg)
	}
}

// P17.1: all that is between what may be had and what is no quota: 65535 is one, if one that no ledger has left, and 65536 is none.
func TestLargeQuotas(t *testing.T) {
	p := newPair(t, 10000)
	for quota := 9990; quota <= 66000; quota++ {
		want := error(nil)
		switch {
		case quota > 65535:
			want = api.ErrArg
		case quota > 10000:
			want = api.ErrFull
		}
		p.expect(t, 1, quota, want)
		p.leave(t, 1)
	}
}

// P17.1, P17.3: a quota that is one below what is left, just that, and one above.
func TestAboutLeft(t *testing.T) {
	for i := range stages(t) {
		for off := -1; off <= 1; off++ {
			for tenant := 1; tenant <= 8; tenant++ {
				p := stages(t)[i]
				left := p.l.Left()
				_, there := p.l.Quota(tenant)
				want := error(nil)
				switch {
				case left+off < 0:
					want = api.ErrArg
				case there:
					want = api.ErrTwice
				case off > 0:
					want = api.ErrFull
				}
				p.expect(t, tenant, left+off, want)
				if want == nil && p.l.Left() != -off {
					t.Fatalf("behind Admit(%d, %d) there is left %d", tenant, left+off, p.l.Left())
				}
			}
		}
	}
}

// P17.1: where nothing is left, of capacity 0, too: a quota of 0 may be had by each, and no other.
func TestNothingLeft(t *testing.T) {
	for _, p := range []pair{newPair(t, 0), newPair(t, 1), newPair(t, 10000)} {
		if p.m.capacity > 0 {
			p.admitted(t, 4, p.m.capacity)
		}
		for tenant := 1; tenant <= 8; tenant++ {
			if tenant == 4 && p.m.capacity > 0 {
				p.expect(t, tenant, 0, api.ErrTwice)
				continue
			}
			for _, quota := range []int{1, 2, 100, 10000, 10001, 65535} {
				p.expect(t, tenant, quota, api.ErrFull)
			}
			p.admitted(t, tenant, 0)
			if quota, ok := p.l.Quota(tenant); quota != 0 || !ok || p.l.Left() != 0 {
				t.Fatalf("Quota(%d) tells %d, %v", tenant, quota, ok)
			}
		}
	}
}

// P17.1: a tenant with a quota of 0 is there: it can't be admitted again, can leave once, and may come again.
func TestQuotaOfNothing(t *testing.T) {
	for tenant := 1; tenant <= 8; tenant++ {
		for _, capacity := range []int{0, 1, 50, 10000} {
			p := newPair(t, capacity)
			p.admitted(t, tenant, 0)
			for _, quota := range []int{0, 1, capacity, capacity + 1, 65535} {
				p.expect(t, tenant, quota, api.ErrTwice)
			}
			if quota, ok := p.l.Quota(tenant); quota != 0 || !ok {
				t.Fatalf("Quota(%d) tells %d, %v", tenant, quota, ok)
			}
			if err := p.leave(t, tenant); err != nil {
				t.Fatalf("Leave(%d) tells %v", tenant, err)
			}
			if err := p.leave(t, tenant); err != api.ErrNone {
				t.Fatalf("Leave(%d) again tells %v", tenant, err)
			}
			p.admitted(t, tenant, capacity)
		}
	}
}

// R1, P17.1, P17.2: where several errors apply, the one that the chapter names first.
func TestOrderOfErrors(t *testing.T) {
	p := newPair(t, 100)
	p.admitted(t, 1, 60)
	for i, c := range []struct {
		tenant, quota int
		want          error
	}{
		{0, -1, api.ErrArg}, {9, 65536, api.ErrArg}, {-1, math.MinInt, api.ErrArg}, {math.MaxInt, math.MaxInt, api.ErrArg},
		{0, 41, api.ErrArg}, {9, 65535, api.ErrArg},
		{1, -1, api.ErrArg}, {1, 65536, api.ErrArg}, {1, math.MaxInt, api.ErrArg}, {1, math.MinInt, api.ErrArg},
		{2, -1, api.ErrArg}, {2, 65536, api.ErrArg}, {2, math.MaxInt, api.ErrArg},
		{1, 41, api.ErrTwice}, {1, 61, api.ErrTwice}, {1, 101, api.ErrTwice}, {1, 65535, api.ErrTwice},
		{1, 60, api.ErrTwice}, {1, 40, api.ErrTwice}, {1, 0, api.ErrTwice},
		{2, 41, api.ErrFull}, {2, 101, api.ErrFull}, {2, 65535, api.ErrFull},
	} {
		if err := p.l.Admit(c.tenant, c.quota); err != c.want {
			t.Errorf("%d: Admit(%d, %d) tells %v, not %v", i, c.tenant, c.quota, err, c.want)
		}
		p.look(t)
	}
	p.admitted(t, 2, 40)
}

// P17.1, P17.2: who is there can't be admitted, be its quota the same, less or more; its quota stays.
func TestTwice(t *testing.T) {
	for _, p := range stages(t) {
		for tenant := range 9 {
			old, there := p.m.quotas[tenant]
			if !there {
				continue
			}
			for _, quota := range []int{0, old, old + 1, p.m.left(), p.m.left() + 1, p.m.left() + old, p.m.capacity, 65535} {
				p.expect(t, tenant, quota, api.ErrTwice)
			}
		}
	}
}

// P17.1: Leave of one that is there, that left, that wasn't ever there, and that there can't be.
func TestLeave(t *testing.T) {
	for _, p := range stages(t) {
		for tenant := 8; tenant >= 1; tenant-- {
			want := error(api.ErrNone)
			if _, there := p.m.quotas[tenant]; there {
				want = nil
			}
			if err := p.leave(t, tenant); err != want {
				t.Fatalf("Leave(%d) tells %v, not %v", tenant, err, want)
			}
			for _, gone := range []int{0, 9, -tenant, tenant + 8, tenant + 256, tenant + 1<<32, tenant + math.MinInt} {
				if err := p.leave(t, gone); err != api.ErrNone {
					t.Fatalf("Leave(%d) tells %v", gone, err)
				}
			}
			if err := p.leave(t, tenant); err != api.ErrNone {
				t.Fatalf("Leave(%d) again tells %v", tenant, err)
			}
		}
		if p.l.Left() != p.m.capacity {
			t.Fatalf("behind all there is left %d of %d", p.l.Left(), p.m.capacity)
		}
	}
}

// P17.1: one that left may come again, with another quota, which then is its own.
func TestAgain(t *testing.T) {
	p := newPair(t, 100)
	p.admitted(t, 7, 30)
	for turn, quota := range []int{50, 0, 69, 1, 70, 30, 30} {
		for tenant := 1; tenant <= 8; tenant++ {
			if tenant == 7 {
				continue
			}
			p.admitted(t, tenant, quota)
			if got, ok := p.l.Quota(tenant); got != quota || !ok {
				t.Fatalf("turn %d: Quota(%d) tells %d, %v, not %d", turn, tenant, got, ok, quota)
			}
			p.expect(t, tenant, quota+1, api.ErrTwice)
			p.leave(t, tenant)
			p.expect(t, tenant, 71, api.ErrFull)
		}
	}
	p.leave(t, 7)
	p.admitted(t, 7, 100)
}

// P17.1, P17.3: what one leaves can be had by another, and just that.
func TestHandedOn(t *testing.T) {
	for from := 1; from <= 8; from++ {
		for to := 1; to <= 8; to++ {
			for _, quota := range []int{0, 1, 17, 9999, 10000} {
				p := newPair(t, quota)
				p.admitted(t, from, quota)
				if from != to {
					p.expect(t, to, quota+1, api.ErrFull)
					p.expect(t, to, max(quota, 1), api.ErrFull)
				}
				p.leave(t, from)
				p.expect(t, to, quota+1, api.ErrFull)
				p.admitted(t, to, quota)
				if p.l.Left() != 0 {
					t.Fatalf("behind %d for %d there is left %d", to, from, p.l.Left())
				}
			}
		}
	}
}

// P17.1, P17.3: all eight at once, in many orders, and all gone again, with what each gives back.
func TestAllEight(t *testing.T) {
	r := rand.New(rand.NewSource(17))
	for range 500 {
		quotas := [8]int{r.Intn(1250), r.Intn(1250), r.Intn(1250), r.Intn(1250), 0, 1, 1250, r.Intn(3)}
		capacity := r.Intn(3)
		for _, quota := range quotas {
			capacity += quota
		}
		if capacity > 10000 {
			t.Fatal("the test is wrong")
		}
		p, left := newPair(t, capacity), capacity
		for _, i := range r.Perm(8) {
			p.admitted(t, i+1, quotas[i])
			left -= quotas[i]
			if p.l.Left() != left {
				t.Fatalf("there is left %d, not %d", p.l.Left(), left)
			}
		}
		for tenant := 1; tenant <= 8; tenant++ {
			if quota, ok := p.l.Quota(tenant); quota != quotas[tenant-1] || !ok {
				t.Fatalf("Quota(%d) tells %d, %v, not %d", tenant, quota, ok, quotas[tenant-1])
			}
			p.expect(t, tenant, 0, api.ErrTwice)
		}
		p.expect(t, 9, 0, api.ErrArg)
		p.expect(t, 0, 0, api.ErrArg)
		for _, i := range r.Perm(8) {
			if err := p.leave(t, i+1); err != nil {
				t.Fatalf("Leave(%d) tells %v", i+1, err)
			}
			left += quotas[i]
			if p.l.Left() != left {
				t.Fatalf("there is left %d, not %d", p.l.Left(), left)
			}
		}
		if left != capacity || len(p.m.quotas) != 0 {
			t.Fatalf("behind all there is left %d of %d", left, capacity)
		}
		p.admitted(t, 1+r.Intn(8), capacity)
	}
}

// P17.1 to P17.3: in each state that three tenants of a small capacity can be in, each deed.
func TestSmallStates(t *testing.T) {
	for capacity := range 4 {
		for state := range 5 * 5 * 5 {
			// A quota of -1 tells that the tenant isn't there.
			quotas := [3]int{state%5 - 1, state/5%5 - 1, state/25 - 1}
			sum := 0
			for _, quota := range quotas {
				sum += max(quota, 0)
			}
			if sum > capacity {
				continue
			}
			for deed := range 3 * 8 {
				p := newPair(t, capacity)
				for i, quota := range quotas {
					if quota >= 0 {
						p.admitted(t, 3*i+1, quota)
					}
				}
				tenant := 3*(deed/8) + 1
				if deed%8 == 7 {
					p.leave(t, tenant)
				} else {
					p.admit(t, tenant, deed%8-1)
				}
			}
		}
	}
}

// P17.1: ledgers side by side know nothing of each other.
func TestSideBySide(t *testing.T) {
	a, b, c := newPair(t, 10), newPair(t, 10), newPair(t, 3)
	a.admitted(t, 1, 10)
	b.look(t)
	c.look(t)
	b.admitted(t, 1, 4)
	b.admitted(t, 2, 6)
	c.admitted(t, 2, 3)
	a.look(t)
	a.expect(t, 2, 1, api.ErrFull)
	if err := a.leave(t, 2); err != api.ErrNone {
		t.Errorf("Leave of another's tenant tells %v", err)
	}
	a.leave(t, 1)
	b.look(t)
	c.look(t)
	if quota, ok := b.l.Quota(1); quota != 4 || !ok || b.l.Left() != 0 {
		t.Errorf("Quota(1) tells %d, %v", quota, ok)
	}
	b.expect(t, 3, 1, api.ErrFull)
	b.leave(t, 2)
	a.look(t)
	c.look(t)
	if New(10).Left() != 10 || New(3).Left() != 3 {
		t.Error("a new ledger isn't new")
	}
}

// someTenant is most often one that there can be.
func someTenant(r *rand.Rand) int {
	if r.Intn(12) == 0 {
		l := notTenants()
		return l[r.Intn(len(l))]
	}
	return 1 + r.Intn(8)
}

// someQuota is about what is left, some part of it, anything at all, or amiss.
func someQuota(r *rand.Rand, left int) int {
	switch r.Intn(8) {
	case 0:
		return left - 1 + r.Intn(3)
	case 1:
		return 0
	case 2:
		return r.Intn(65536)
	case 3:
		l := notQuotas()
		return l[r.Intn(len(l))]
	case 4:
		return []int{65534, 65535, 65536, 9999, 10000, 10001, 1, -1}[r.Intn(8)]
	}
	return r.Intn(left/3 + 2)
}

// P17.1 to P17.3, P1: many deeds in any order, of many ledgers in turn, all held against the chapter's words.
func TestManyDeeds(t *testing.T) {
	r := rand.New(rand.NewSource(1717))
	var l []pair
	for _, capacity := range []int{0, 1, 2, 7, 100, 255, 256, 1000, 9999, 10000} {
		l = append(l, newPair(t, capacity))
	}
	seen := map[error]int{}
	for range 100000 {
		p := l[r.Intn(len(l))]
		switch r.Intn(5) {
		case 0, 1, 2:
			seen[p.admit(t, someTenant(r), someQuota(r, p.m.left()))]++
		case 3:
			seen[p.leave(t, someTenant(r))]++
		case 4:
			p.quota(t, someTenant(r))
		}
	}
	for _, err := range []error{nil, api.ErrArg, api.ErrTwice, api.ErrFull, api.ErrNone} {
		if seen[err] < 100 {
			t.Errorf("%v is met %d times only: %v", err, seen[err], seen)
		}
	}
	for _, p := range l {
		p.look(t)
	}
}

// R2, R3: Quota and Left change nothing, however often they are asked, and of whatever.
func TestAskingChangesNothing(t *testing.T) {
	for _, p := range stages(t) {
		for range 3 {
			for _, tenant := range append(notTenants(), 1, 2, 3, 4, 5, 6, 7, 8) {
				p.quota(t, tenant)
			}
			p.look(t)
		}
	}
}

// P1, P17.1 to P17.3: no arguments make a call panic, and all is as the chapter's words tell it.
func FuzzLedger(f *testing.F) {
	f.Add(100, 1, 60, 2, 41)
	f.Add(5, 1, 3, 2, 3)
	f.Add(0, 8, 0, 8, 0)
	f.Add(10000, 1, 10000, 2, 0)
	f.Add(10000, 3, 65535, 3, 65536)
	f.Add(-1, 0, -1, 9, -1)
	f.Add(math.MaxInt, math.MaxInt, math.MaxInt, math.MinInt, math.MinInt)
	f.Add(10000, math.MinInt, math.MaxInt, math.MaxInt, math.MinInt)
	for i, n := range far() {
		f.Add(n, 1, 1, 2, 2)
		f.Add(9999, n, 1, 1, n)
		f.Add(9999, i%8+1, n, n, i)
	}
	f.Fuzz(func(t *testing.T, capacity, tenant, quota, other, more int) {
		if New(capacity) == nil {
			if capacity >= 0 && capacity <= 10000 {
				t.Fatalf("there is no ledger of capacity %d", capacity)
			}
			capacity &= 8191
		}
		p := newPair(t, capacity)
		p.admit(t, tenant, quota)
		p.admit(t, tenant, more)
		p.admit(t, other, more)
		p.admit(t, other&7+1, quota&1023)
		p.admit(t, tenant&7+1, p.m.left()-1)
		p.quota(t, tenant)
		p.quota(t, other)
		p.leave(t, tenant)
		p.admit(t, tenant, p.m.left())
		p.leave(t, other)
		p.leave(t, other&7+1)
		p.leave(t, other&7+1)
	})
}

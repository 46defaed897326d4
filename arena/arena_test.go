package arena

import (
	"bower/api"
	"math"
	"math/rand"
	"slices"
	"testing"
)

// notMost are numbers of numbers that may not be: the nearest, those that wrap onto right ones, the farthest.
var notMost = []int{-1, -2, -8, -20000, -20001, 20001, 20002, 65536, 1 << 31, 1 << 32, 1<<32 + 3, -1 << 32, math.MaxInt32, math.MinInt32, math.MaxInt, math.MaxInt - 1, math.MinInt, math.MinInt + 1}

// notNumbers are numbers of no arena.
var notNumbers = []int{-1, -2, -3, -64, -20000, 20000, 20001, 65536, 1 << 32, 1<<32 + 1, -1 << 32, math.MaxInt32, math.MinInt32, math.MaxInt, math.MinInt, math.MinInt + 1}

// model is the chapter's words: who is taken, who ever was, and all that was given back, in turn.
type model struct {
	most        int
	taken, ever map[int]bool
	given       []int
}

func newModel(most int) *model {
	return &model{most: most, taken: map[int]bool{}, ever: map[int]bool{}}
}

func (m *model) take() (int, error) {
	if len(m.taken) == m.most {
		return 0, api.ErrFull
	}
	n := m.pick()
	m.taken[n], m.ever[n] = true, true
	return n, nil
}

// pick looks through all that was given back, from the last; then for the least that never was taken.
func (m *model) pick() int {
	for _, n := range slices.Backward(m.given) {
		if !m.taken[n] {
			return n
		}
	}
	for n := range m.most {
		if !m.ever[n] {
			return n
		}
	}
	panic("the model is full, and doesn't tell so")
}

func (m *model) give(n int) error {
	if !m.taken[n] {
		return api.ErrArg
	}
	delete(m.taken, n)
	m.given = append(m.given, n)
	return nil
}

// pair is an arena and its model, to be asked the same.
type pair struct {
	a *Arena
	m *model
}

func newPair(t *testing.T, most int) pair {
	t.Helper()
	a := New(most)
	if a == nil {
		t.Fatalf("there is no arena of %d", most)
	}
	return pair{a, newModel(most)}
}

func (p pair) take(t *testing.T) int {
	t.Helper()
	n, err := p.a.Take()
	want, wantErr := p.m.take()
	if n != want || err != wantErr {
		t.Fatalf("of %d: Take tells %d, %v, not %d, %v", p.m.most, n, err, want, wantErr)
	}
	return n
}

func (p pair) give(t *testing.T, n int) {
	t.Helper()
	if err, want := p.a.Give(n), p.m.give(n); err != want {
		t.Fatalf("of %d: Give(%d) tells %v, not %v", p.m.most, n, err, want)
	}
}

// look holds Has of all numbers of the arena, and of some around them, and Many against the model.
func (p pair) look(t *testing.T) {
	t.Helper()
	for n := -2; n < p.m.most+3; n++ {
		if p.a.Has(n) != p.m.taken[n] {
			t.Fatalf("of %d: Has(%d) is %v", p.m.most, n, p.a.Has(n))
		}
	}
	if p.a.Many() != len(p.m.taken) {
		t.Fatalf("of %d: %d are told as taken, not %d", p.m.most, p.a.Many(), len(p.m.taken))
	}
}

// takeAll takes from a new arena until all are taken.
func takeAll(t *testing.T, most int) *Arena {
	t.Helper()
	a := New(most)
	for want := range most {
		if n, err := a.Take(); n != want || err != nil {
			t.Fatalf("of %d: Take tells %d, %v, not %d", most, n, err, want)
		}
	}
	return a
}

// P4.1: from none to 20000, and nothing is taken.
func TestNew(t *testing.T) {
	for _, most := range []int{0, 1, 2, 3, 8, 255, 256, 10400, 19999, 20000} {
		a := New(most)
		if a == nil {
			t.Fatalf("there is no arena of %d", most)
		}
		if a.Many() != 0 {
			t.Errorf("of %d: %d are taken at first", most, a.Many())
		}
		for n := -1; n <= most; n++ {
			if a.Has(n) {
				t.Fatalf("of %d: %d is taken at first", most, n)
			}
		}
	}
	for most := range api.MaxNodes + 1 {
		if New(most) == nil {
			t.Fatalf("there is no arena of %d", most)
		}
	}
}

// P4.1, R3, P1
func TestNewOfWhatMayNotBe(t *testing.T) {
	for _, most := range notMost {
		if New(most) != nil {
			t.Errorf("there is an arena of %d", most)
		}
	}
}

// P4.1: the chapter's example.
func TestExample(t *testing.T) {
	a := New(2)
	var got []int
	for i := range 3 {
		if i == 2 && a.Give(0) != nil {
			t.Error("0 can't be given back")
		}
		n, err := a.Take()
		if err != nil {
			t.Error(err)
		}
		got = append(got, n)
	}
	if !slices.Equal(got, []int{0, 1, 0}) {
		t.Errorf("take, take, give 0, take: %v", got)
	}
}

// P4.1, P4.2, R3: all of an arena are taken by rising numbers; then none is, however often it is asked, and nothing changes.
func TestAllTaken(t *testing.T) {
	for _, most := range []int{0, 1, 2, 7, 256, 19999, 20000} {
		a := takeAll(t, most)
		for range 3 {
			if n, err := a.Take(); n != 0 || err != api.ErrFull {
				t.Fatalf("of %d, all taken: Take tells %d, %v", most, n, err)
			}
		}
		if a.Many() != most || a.Has(-1) || a.Has(most) {
			t.Fatalf("of %d, all taken: %d are told", most, a.Many())
		}
		for n := range most {
			if !a.Has(n) {
				t.Fatalf("of %d, all taken: %d isn't", most, n)
			}
		}
	}
}

// P4.1: an arena that was full goes on as soon as one is given back, be it the first, one between or the last.
func TestFullAndBack(t *testing.T) {
	for _, most := range []int{1, 2, 5, 20000} {
		a := takeAll(t, most)
		for _, n := range []int{0, most / 2, most - 1} {
			if err := a.Give(n); err != nil || a.Has(n) || a.Many() != most-1 {
				t.Fatalf("of %d: Give(%d) tells %v", most, n, err)
			}
			if got, err := a.Take(); got != n || err != nil || !a.Has(n) || a.Many() != most {
				t.Fatalf("of %d, all but %d taken: Take tells %d, %v", most, n, got, err)
			}
			if _, err := a.Take(); err != api.ErrFull {
				t.Fatalf("of %d, all taken again: Take tells %v", most, err)
			}
		}
	}
}

// P4.1: given back last, taken first, in whatever order they are given back, and ahead of those never taken.
func TestGivenBackLastTakenFirst(t *testing.T) {
	r := rand.New(rand.NewSource(9))
	for _, most := range []int{3, 10, 1000, 20000} {
		a := New(most)
		used := most - most/3
		for range used {
			a.Take()
		}
		back := r.Perm(used)
		for _, n := range back {
			if err := a.Give(n); err != nil {
				t.Fatalf("of %d: Give(%d) tells %v", most, n, err)
			}
		}
		if a.Many() != 0 {
			t.Fatalf("of %d, all given back: %d are taken", most, a.Many())
		}
		slices.Reverse(back)
		for n := used; n < most; n++ {
			back = append(back, n)
		}
		for i, want := range back {
			if n, err := a.Take(); n != want || err != nil || a.Many() != i+1 {
				t.Fatalf("of %d: Take tells %d, %v, not %d", most, n, err, want)
			}
		}
	}
}

// P4.1: a number that is given back twice, with a Take between, has its turn from the later time.
func TestGivenBackAgain(t *testing.T) {
	p := newPair(t, 5)
	for range 4 {
		p.take(t)
	}
	for _, n := range []int{1, 3, 0} {
		p.give(t, n)
	}
	if p.take(t) != 0 || p.take(t) != 3 {
		t.Error("what was given back last isn't taken first")
	}
	p.give(t, 2)
	p.give(t, 0)
	p.give(t, 3)
	for _, want := range []int{3, 0, 2, 1, 4} {
		if n := p.take(t); n != want {
			t.Errorf("%d is taken, not %d", n, want)
		}
	}
	p.look(t)
}

// P4.1, P1: what isn't taken can't be given back: numbers of no arena, ones never taken, ones given back.
func TestGiveOfWhatIsNotTaken(t *testing.T) {
	for _, most := range []int{0, 1, 4, 20000} {
		a := New(most)
		wrong := append(slices.Clone(notNumbers), 0, 1, 2, 3, most-1, most, most+1)
		for _, n := range wrong {
			if err := a.Give(n); err != api.ErrArg || a.Has(n) || a.Many() != 0 {
				t.Errorf("of %d, none taken: Give(%d) tells %v", most, n, err)
			}
		}
	}
	a := takeAll(t, 4)
	for _, n := range append(slices.Clone(notNumbers), 4, 5, 8, 255) {
		if err := a.Give(n); err != api.ErrArg || a.Has(n) || a.Many() != 4 {
			t.Errorf("of 4, all taken: Give(%d) tells %v", n, err)
		}
	}
	for left := 3; left >= 0; left-- {
		if err := a.Give(left); err != nil {
			t.Errorf("of 4: Give(%d) tells %v", left, err)
		}
		for n := left; n < 6; n++ {
			if err := a.Give(n); err != api.ErrArg || a.Many() != left {
				t.Errorf("of 4, %d left: Give(%d) tells %v", left, n, err)
			}
		}
	}
}

// P4.1: Give of numbers within the arena that were never taken, while lesser ones are.
func TestGiveOfWhatNeverWasTaken(t *testing.T) {
	p := newPair(t, 20)
	for taken := range 20 {
		for n := taken; n < 22; n++ {
			if err := p.a.Give(n); err != api.ErrArg {
				t.Fatalf("%d taken: Give(%d) tells %v", taken, n, err)
			}
		}
		p.look(t)
		p.take(t)
	}
}

// wrongCalls asks what must be told as an error.
func wrongCalls(t *testing.T, a *Arena, most int) {
	t.Helper()
	for _, n := range append(slices.Clone(notNumbers), most, most+1) {
		if a.Give(n) != api.ErrArg {
			t.Fatalf("of %d: %d is given back", most, n)
		}
	}
	for n := range most {
		if !a.Has(n) && a.Give(n) != api.ErrArg {
			t.Fatalf("of %d: %d is given back, and wasn't taken", most, n)
		}
	}
	if a.Many() == most {
		if n, err := a.Take(); n != 0 || err != api.ErrFull {
			t.Fatalf("of %d, all taken: Take tells %d, %v", most, n, err)
		}
	}
}

// P4.2: an arena of which wrong things are asked between goes on as one of which they aren't.
func TestWithAnErrorNothingChanges(t *testing.T) {
	r := rand.New(rand.NewSource(10))
	for _, most := range []int{0, 1, 2, 3, 9} {
		a, b := New(most), New(most)
		for range 400 {
			wrongCalls(t, a, most)
			if n := r.Intn(most + 1); r.Intn(2) == 0 && b.Has(n) {
				if a.Give(n) != nil || b.Give(n) != nil {
					t.Fatalf("of %d: %d can't be given back", most, n)
				}
			} else if b.Many() < most {
				n, err := a.Take()
				want, wantErr := b.Take()
				if n != want || err != wantErr {
					t.Fatalf("of %d: %d, %v behind wrong calls, else %d, %v", most, n, err, want, wantErr)
				}
			}
			if a.Many() != b.Many() {
				t.Fatalf("of %d: %d taken behind wrong calls, else %d", most, a.Many(), b.Many())
			}
		}
	}
}

// P4.1, P4.2: every way to take and give seven times in small arenas.
func TestAllWays(t *testing.T) {
	const steps = 7
	for most := range 4 {
		kinds := most + 3
		ways := 1
		for range steps {
			ways *= kinds
		}
		for way := range ways {
			p := newPair(t, most)
			for range steps {
				if kind := way % kinds; kind == 0 {
					p.take(t)
				} else {
					p.give(t, kind-2)
				}
				p.look(t)
				way /= kinds
			}
		}
	}
}

// P4.1, P4.3: long ways in greater arenas, now with more taken than given back, now the other way round.
func TestLongWays(t *testing.T) {
	r := rand.New(rand.NewSource(11))
	for _, most := range []int{5, 17, 64, 300} {
		p := newPair(t, most)
		for turn := range 6 {
			for range most {
				if r.Intn(4) == 0 == (turn%2 == 0) {
					p.give(t, r.Intn(most+2)-1)
				} else {
					p.take(t)
				}
				p.look(t)
			}
		}
	}
}

// P4.3: in the greatest arena no number is taken that is taken already, or lies outside.
func TestNoTwoAlike(t *testing.T) {
	r := rand.New(rand.NewSource(12))
	a, held, list := New(api.MaxNodes), map[int]bool{}, []int{}
	for step := range 6 * api.MaxNodes {
		most := 3
		if step > 2*api.MaxNodes {
			most = 9
		}
		if len(list) > 0 && r.Intn(most) == 0 {
			i := r.Intn(len(list))
			n := list[i]
			list[i] = list[len(list)-1]
			list = list[:len(list)-1]
			delete(held, n)
			if err := a.Give(n); err != nil || a.Has(n) {
				t.Fatalf("Give(%d) tells %v", n, err)
			}
			continue
		}
		n, err := a.Take()
		if len(list) == api.MaxNodes {
			if n != 0 || err != api.ErrFull {
				t.Fatalf("all taken: Take tells %d, %v", n, err)
			}
			continue
		}
		if err != nil || n < 0 || n >= api.MaxNodes || held[n] || !a.Has(n) {
			t.Fatalf("%d taken: Take tells %d, %v", len(list), n, err)
		}
		held[n], list = true, append(list, n)
		if a.Many() != len(list) {
			t.Fatalf("%d are told as taken, not %d", a.Many(), len(list))
		}
	}
}

// P4.1, P1: Has changes nothing, and holds for no number that isn't taken.
func TestHas(t *testing.T) {
	p := newPair(t, 6)
	for step := range 6 {
		for _, n := range append(slices.Clone(notNumbers), 6, 7) {
			if p.a.Has(n) {
				t.Errorf("%d taken: Has(%d)", step, n)
			}
		}
		p.look(t)
		p.take(t)
	}
	for _, n := range []int{4, 0, 5} {
		p.give(t, n)
		p.look(t)
	}
}

// P4.1, R2: no arena has to do with another.
func TestArenasAreApart(t *testing.T) {
	l := []pair{newPair(t, 3), newPair(t, 3), newPair(t, 40), newPair(t, 0)}
	r := rand.New(rand.NewSource(13))
	for range 600 {
		p := l[r.Intn(len(l))]
		if r.Intn(2) == 0 {
			p.take(t)
		} else {
			p.give(t, r.Intn(p.m.most+1))
		}
		for _, q := range l {
			q.look(t)
		}
	}
	if l[0].a == l[1].a {
		t.Error("two arenas are one")
	}
}

// The section on errors: what is told is the Code itself, of api's own type, and nil where there is none.
func TestErrorsAreCodes(t *testing.T) {
	a := New(1)
	if err := a.Give(0); err != error(api.ErrArg) {
		t.Errorf("Give of what isn't taken tells %v", err)
	}
	if _, err := a.Take(); err != nil {
		t.Errorf("Take tells %v", err)
	}
	_, err := a.Take()
	if code, ok := err.(api.Code); !ok || code != api.ErrFull {
		t.Errorf("Take of all taken tells %v", err)
	}
	if err := a.Give(0); err != nil {
		t.Errorf("Give of what is taken tells %v", err)
	}
	err = a.Give(0)
	if code, ok := err.(api.Code); !ok || code != api.ErrArg {
		t.Errorf("Give of what was given back tells %v", err)
	}
}

// P1, P4.1 to P4.3: no argument makes a call panic, and all is as the chapter's words tell it.
func FuzzAllArguments(f *testing.F) {
	for i, most := range append([]int{0, 1, 3, 20000}, notMost...) {
		f.Add(most, notNumbers[i%len(notNumbers)], []byte{0, 0, 0, 2, 1, 3, 0, 0, 0, 0, 5})
	}
	f.Fuzz(func(t *testing.T, most, wrong int, ways []byte) {
		a := New(most)
		if most < 0 || most > api.MaxNodes {
			if a != nil {
				t.Fatalf("there is an arena of %d", most)
			}
			return
		}
		p := newPair(t, most)
		for _, way := range ways {
			if way%2 == 0 {
				p.take(t)
			} else {
				p.give(t, int(way/2)-1)
			}
			p.give(t, wrong)
			if p.a.Has(wrong) || p.a.Many() != len(p.m.taken) {
				t.Fatalf("of %d: %d is taken, or %d are", most, wrong, p.a.Many())
			}
		}
		p.look(t)
	})
}
